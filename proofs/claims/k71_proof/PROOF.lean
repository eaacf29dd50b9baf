import PyProof.Rows.All
import Wide.All
import OpenK.AllK
import Wide.FinOn
import Lean
import PyProof.EqAt
import PyProof.EqKinds
import PyProof.TupleCall
import PySem.Challenge.RW_postroad_k71_letters_posted
set_option Elab.async false
set_option linter.all false
set_option maxRecDepth 100000
namespace L2
open PySem PySem.Spec PyProof.Rows
noncomputable abbrev Key:=Sum Int Str
noncomputable def keyIs:Key→Value→Bool
 | .inl k,v=>Value.isInt k v
 | .inr x,v=>Value.isStrOf x v
noncomputable def keyH (w:World):Key→Int
 | .inl k=>hashInt k
 | .inr x=>hashStr w x
theorem keyIs_shape:∀{k:Key} {v:Value},keyIs k v=true→(∃i t,k=Sum.inl i∧v=Value.int i t)∨(∃x t,k=Sum.inr x∧v=Value.str x t)
 | .inl i,v,h=>by
  obtain ⟨t,e⟩:=Value.isInt_shape (k:=i) (v:=v) h
  exact .inl ⟨i,t,rfl,e⟩
 | .inr x,v,h=>by
  obtain ⟨t,e⟩:=Value.isStrOf_shape (x:=x) (v:=v) h
  exact .inr ⟨x,t,rfl,e⟩
theorem keyIs_int (i:Int) (t:Tok):keyIs (.inl i) (.int i t)=true:=by simp [keyIs,Value.isInt]
theorem keyIs_str (x:Str) (t:Tok):keyIs (.inr x) (.str x t)=true:=by simp [keyIs,Value.isStrOf]
theorem key_ll (a b:Int):decide ((Sum.inl a:Key)=Sum.inl b)=(a==b):=by
 by_cases e:a=b
 ·subst e;simp
 ·have h:¬(Sum.inl a:Key)=Sum.inl b:=fun q=>e (Sum.inl.inj q)
  rw [decide_eq_false h]
  exact (beq_eq_false_iff_ne.mpr e).symm
theorem key_rr (a b:Str):decide ((Sum.inr a:Key)=Sum.inr b)=decide (a=b):=by
 by_cases e:a=b
 ·subst e;simp
 ·have h:¬(Sum.inr a:Key)=Sum.inr b:=fun q=>e (Sum.inr.inj q)
  rw [decide_eq_false h,decide_eq_false e]
theorem key_lr (a:Int) (b:Str):decide ((Sum.inl a:Key)=Sum.inr b)=false:=decide_eq_false (fun q=>nomatch q)
theorem key_rl (a:Str) (b:Int):decide ((Sum.inr a:Key)=Sum.inl b)=false:=decide_eq_false (fun q=>nomatch q)
noncomputable def mixKind (prog:Program) (w:World):PySem.KeyKind prog w Key where
 is:=keyIs
 hash:=keyH w
 inj:=fun v a b ha hb=>by
  rcases keyIs_shape ha with ⟨i,t,rfl,rfl⟩ | ⟨x,t,rfl,rfl⟩
  ·rcases keyIs_shape hb with ⟨j,u,rfl,e⟩ | ⟨y,u,rfl,e⟩
   ·injection e with e1 _;rw [e1]
   ·exact nomatch e
  ·rcases keyIs_shape hb with ⟨j,u,rfl,e⟩ | ⟨y,u,rfl,e⟩
   ·exact nomatch e
   ·injection e with e1 _;rw [e1]
 byValue:=fun k v h=>by
  rcases keyIs_shape h with ⟨i,t,rfl,rfl⟩ | ⟨x,t,rfl,rfl⟩ <;> rfl
 pyHash:=fun hv h=>by
  rcases keyIs_shape hv with ⟨i,t,rfl,rfl⟩ | ⟨x,t,rfl,rfl⟩
  ·exact wpAny_pyHash_int h
  ·exact wpAny_pyHash_str h
 eqBool:=fun hu hv h=>by
  rcases keyIs_shape hu with ⟨i,t,rfl,rfl⟩ | ⟨x,t,rfl,rfl⟩
  ·rcases keyIs_shape hv with ⟨j,u,rfl,rfl⟩ | ⟨y,u,rfl,rfl⟩
   ·rw [key_ll] at h;exact wpAny_eqBool_int h
   ·rw [key_lr] at h;exact SeqAt.EqAt.int_str i t y u _ _ _ _ h
  ·rcases keyIs_shape hv with ⟨j,u,rfl,rfl⟩ | ⟨y,u,rfl,rfl⟩
   ·rw [key_rl] at h;exact SeqAt.EqAt.str_int x t j u _ _ _ _ h
   ·rw [key_rr] at h;exact wpAny_eqBool_str h
 «strs»:=fun k x t v h=>by
  rcases keyIs_shape h with ⟨i,u,rfl,e⟩ | ⟨y,u,rfl,e⟩
  ·exact nomatch e
  ·injection e with e1 _
   subst e1
   cases v <;> rfl
theorem mixKind_int (prog:Program) (w:World) (i:Int) (t:Tok):(mixKind prog w).is (.inl i) (.int i t)=true:=keyIs_int i t
theorem mixKind_str (prog:Program) (w:World) (x:Str) (t:Tok):(mixKind prog w).is (.inr x) (.str x t)=true:=keyIs_str x t
inductive V where
 | non | bl (b:Bool) | int (i:Int) | str (x:Str) | byt (b:Array UInt8) | flt (b:UInt64) | ref (a:Addr) | ty (n:String)
 deriving DecidableEq
noncomputable def RelV:V→Value→Prop
 | .non,u=>u=Value.none
 | .bl b,u=>u=Value.bool b
 | .int i,u=>∃t,u=Value.int i t
 | .str x,u=>∃t,u=Value.str x t
 | .byt b,u=>∃t,u=Value.bytes b t
 | .flt b,u=>∃t,u=Value.float b t
 | .ref a,u=>u=Value.ref a
 | .ty n,u=>u=Value.type n
noncomputable abbrev Vals:List V→List Value→Prop:=Paired RelV
theorem Vals.length {xs:List V} {us:List Value} (r:Vals xs us):xs.length=us.length:=Paired.length r
theorem Vals.get:∀{xs:List V} {us:List Value} {i:Nat} {x:V},Vals xs us→xs[i]?=some x→∃u,us[i]?=some u∧RelV x u
 | _,_,_,_,.nil,e=>by simp at e
 | _,_,0,_,.cons r _,e=>by simp at e;subst e;exact ⟨_,rfl,r⟩
 | _,_,i+1,x,.cons _ t,e=>by
  obtain ⟨u,h1,h2⟩:=Vals.get (i:=i) (x:=x) t (by simpa using e)
  exact ⟨u,by simpa using h1,h2⟩
theorem Vals.append:∀{xs ys:List V} {us ws:List Value},Vals xs us→Vals ys ws→Vals (xs++ys) (us++ws)
 | _,_,_,_,.nil,s=>s
 | _,_,_,_,.cons r t,s=>.cons r (Vals.append t s)
theorem Vals.take:∀{xs:List V} {us:List Value} (n:Nat),Vals xs us→Vals (xs.take n) (us.take n)
 | _,_,0,_=>.nil
 | _,_,_+1,.nil=>.nil
 | _,_,n+1,.cons r t=>.cons r (Vals.take n t)
theorem Vals.drop:∀{xs:List V} {us:List Value} (n:Nat),Vals xs us→Vals (xs.drop n) (us.drop n)
 | _,_,0,r=>r
 | _,_,_+1,.nil=>.nil
 | _,_,n+1,.cons _ t=>Vals.drop n t
noncomputable def RelO:Option V→Option Value→Prop
 | some v,some u=>RelV v u
 | none,none=>True
 | _,_=>False
noncomputable def KV {κ:Type}:List (κ × V)→List (κ × Value)→Prop:=Paired fun (p:κ × V) (q:κ × Value)=>p.1=q.1∧RelV p.2 q.2
noncomputable def kV:Key→V
 | .inl i=>.int i
 | .inr x=>.str x
inductive HO where
  | lst (xs:List V)
  | tup (xs:List V)
  | dK (kvs:List (Key × V)) | dT (kvs:List (List Key × V))
  | set (S:Int→Bool) (n:Nat)
  | ins (C dx:Addr) (fs:List (Str × V))
  | own (x:Addr)
  | xd (fs:List (Str × V))
  | met (f x:Addr)
  | rng (lo hi:Int)
  | frz (o:Obj) (u:HO)
  | tbl (ps:Array Value)
  | ext (φ:Heap→Prop)
noncomputable abbrev Hp:=Addr→Option HO
noncomputable def upd (H:Hp) (a:Addr) (o:HO):Hp:=fun b=>if b=a then some o else H b
theorem upd_same {H:Hp} {a:Addr} {o:HO}:upd H a o a=some o:=by unfold upd;rw [if_pos rfl]
theorem upd_ne {H:Hp} {a b:Addr} {o:HO} (h:b≠a):upd H a o b=H b:=by unfold upd;rw [if_neg h]
theorem upd_upd {H:Hp} {a:Addr} {o u:HO}:upd (upd H a o) a u=upd H a u:=by
 funext b;unfold upd;split <;> rfl
theorem ne_of {H:Hp} {a b:Addr} {o u:HO} (h:H a=some o) (h':H b=some u) (d:o≠u):a≠b:=by
 intro e;subst e;rw [h] at h';exact d (Option.some.inj h')
theorem ne_of_none {H:Hp} {a b:Addr} {o:HO} (h:H a=some o) (h':H b=none):a≠b:=by
 intro e;subst e;rw [h] at h';cases h'
section
variable (P:Program) (w:World)
noncomputable def ObjOk (H:Hp) (h:Heap) (a:Addr):HO→Prop
 | .lst xs=>xs.length≤sizeLine∧∃(its:List Value) (n:Nat),Vals xs its∧h.get? a=some {cls:=.type "list",data:=.seq its.toArray n}
 | .tup xs=>xs.length≤sizeLine∧∃its:List Value,Vals xs its∧IsTup h a its.toArray
 | .dK kvs=>kvs.length≤sizeLine∧(a==sysModules)=false∧∃vs,KV kvs vs∧h.DictOf (mixKind P w) a vs
 | .dT kvs=>kvs.length≤sizeLine∧(a==sysModules)=false∧∃xs:List (List Key × Addr × Value),
   Paired (fun (p:List Key × V) (q:List Key × Addr × Value)=>p.1=q.1∧H q.2.1=some (.tup (p.1.map kV))∧RelV p.2 q.2.2) kvs xs∧
   ∃o es ep,h.get? a=some o∧o.ExactDict∧o.data=.dict es ep∧es.toList=xs.map (entryOfKey (tupleKind (mixKind P w)))∧(xs.map (·.1)).Nodup
 | .set S n=>h.SetOf (intKind P w) a S n
 | .ins C dx fs=>H dx=some (.own a)∧fs.length≤1000∧dx≠a∧h.get? a=some (PySem.W.instObj C dx)∧
   ∃mA,h.Ns1 dx mA∧(∀f,RelO (fs.lookup f) (mA f))∧PySem.Within mA (fs.map (·.1))
 | .own _=>∃o,h.get? a=some o
 | .xd fs=>∃mA,h.Ns1 a mA∧∀f,RelO (fs.lookup f) (mA f)
 | .rng lo hi=>∃t u v,h.get? a=some {cls:=.type "range",data:=.fields #[.int lo t,.int hi u,.int 1 v]}
 | .frz o u=>h.get? a=some o∧ObjOk H h a u
 | .tbl ps=>h.get? a=some {cls:=.none,data:=.fields ps}
 | .met f x=>h.get? a=some (PySem.W.methodObj (.ref f) (.ref x))
 | .ext φ=>φ h∧(∃o,h.get? a=some o)∧∀h1 h2:Heap,φ h1→(∀o,h1.get? a=some o→h2.get? a=some o)→φ h2
noncomputable def HOk (H:Hp) (h:Heap):Prop:=∀a o,H a=some o→ObjOk P w H h a o
end
section
variable {P:Program} {w:World} {H H':Hp} {h h':Heap} {a:Addr} {o:HO}
theorem ObjOk.lt (x:ObjOk P w H h a o):a < h.objs.size:=by
 cases o with
 | lst xs=>obtain ⟨_,_,_,_,e⟩:=x;exact Heap.lt_size e
 | tup xs=>obtain ⟨_,_,_,p⟩:=x;exact p.lt
 | dK kvs=>obtain ⟨_,_,_,_,o,_,_,e,_⟩:=x;exact Heap.lt_size e
 | dT kvs=>obtain ⟨_,_,_,_,o,_,_,e,_⟩:=x;exact Heap.lt_size e
 | set S n=>obtain ⟨o,_,_,_,e,_⟩:=x;exact Heap.lt_size e
 | ins C dx fs=>obtain ⟨_,_,_,e,_⟩:=x;exact Heap.lt_size e
 | own y=>obtain ⟨_,e⟩:=x;exact Heap.lt_size e
 | xd fs=>obtain ⟨_,⟨_,_,_,e,_⟩,_⟩:=x;exact Heap.lt_size e
 | rng lo hi=>obtain ⟨_,_,_,e⟩:=x;exact Heap.lt_size e
 | frz ob u=>obtain ⟨e,_⟩:=x;exact Heap.lt_size e
 | tbl ps=>exact Heap.lt_size (show h.get? a=some _ from x)
 | met f y=>exact Heap.lt_size (show h.get? a=some _ from x)
 | ext φ=>obtain ⟨_,⟨_,e⟩,_⟩:=x;exact Heap.lt_size e
theorem Paired.mapP {α β:Type} {F G:α→β→Prop}:∀{l₁:List α} {l₂:List β},Paired F l₁ l₂→(∀a b,F a b→G a b)→Paired G l₁ l₂
 | _,_,.nil,_=>.nil
 | _,_,.cons r t,f=>.cons (f _ _ r) (Paired.mapP t f)
theorem ObjOk.stay (x:ObjOk P w H h a o) (k:∀b u,(b=a∨H b=some (.own a))→h.get? b=some u→h'.get? b=some u)
  (ho:∀b,H b=some (.own a)→H' b=some (.own a)) (ht:∀b xs,H b=some (.tup xs)→H' b=some (.tup xs)):ObjOk P w H' h' a o:=by
 induction o with
 | lst xs=>obtain ⟨z,its,n,r,e⟩:=x;exact ⟨z,its,n,r,k _ _ (.inl rfl) e⟩
 | tup xs=>obtain ⟨z,its,r,ob,e,c⟩:=x;exact ⟨z,its,r,ob,k _ _ (.inl rfl) e,c⟩
 | dK kvs=>obtain ⟨z,y,vs,r,ob,es,ep,e,c⟩:=x;exact ⟨z,y,vs,r,ob,es,ep,k _ _ (.inl rfl) e,c⟩
 | dT kvs=>
  obtain ⟨z,y,xs,r,ob,es,ep,e,c⟩:=x
  exact ⟨z,y,xs,Paired.mapP r fun p q z=>⟨z.1,ht _ _ z.2.1,z.2.2⟩,ob,es,ep,k _ _ (.inl rfl) e,c⟩
 | set S n=>obtain ⟨ob,es,ep,t,e,c⟩:=x;exact ⟨ob,es,ep,t,k _ _ (.inl rfl) e,c⟩
 | ins C dx fs=>
  obtain ⟨d,z,ne,e,mA,⟨od,es,ep,e2,c⟩,r⟩:=x
  exact ⟨ho _ d,z,ne,k _ _ (.inl rfl) e,mA,⟨od,es,ep,k _ _ (.inr d) e2,c⟩,r⟩
 | own y=>obtain ⟨ob,e⟩:=x;exact ⟨ob,k _ _ (.inl rfl) e⟩
 | xd fs=>obtain ⟨mA,⟨od,es,ep,e,c⟩,r⟩:=x;exact ⟨mA,⟨od,es,ep,k _ _ (.inl rfl) e,c⟩,r⟩
 | rng lo hi=>obtain ⟨t,u,v,e⟩:=x;exact ⟨t,u,v,k _ _ (.inl rfl) e⟩
 | frz ob u ih=>obtain ⟨e,q⟩:=x;exact ⟨k _ _ (.inl rfl) e,ih q⟩
 | tbl ps=>
  have e:h.get? a=some {cls:=.none,data:=.fields ps}:=x
  show h'.get? a=some {cls:=.none,data:=.fields ps}
  exact k a _ (.inl rfl) e
 | met f y=>
  have e:h.get? a=some (PySem.W.methodObj (.ref f) (.ref y)):=x
  show h'.get? a=some (PySem.W.methodObj (.ref f) (.ref y))
  exact k a _ (.inl rfl) e
 | ext φ=>obtain ⟨p,⟨o,e⟩,st⟩:=x;exact ⟨st _ _ p fun o q=>k _ _ (.inl rfl) q,⟨o,k _ _ (.inl rfl) e⟩,st⟩
theorem HOk.lt (x:HOk P w H h) (e:H a=some o):a < h.objs.size:=(x a o e).lt
theorem HOk.fresh (x:HOk P w H h) (e:h.objs.size≤a):H a=none:=by
 cases q:H a with
 | none=>rfl
 | some u=>exact absurd (Nat.lt_of_lt_of_le (x.lt q) e) (Nat.lt_irrefl _)
theorem HOk.kept (x:HOk P w H h) (k:∀b u,h.get? b=some u→h'.get? b=some u):HOk P w H h':=fun a o e=>
 (x a o e).stay (fun b u _ q=>k b u q) (fun _ q=>q) fun _ _ q=>q
theorem HOk.laid (x:HOk P w H h) (k:∀b u,h.get? b=some u→h'.get? b=some u) (hp:h.objs.size≤a) (new:ObjOk P w (upd H a o) h' a o):HOk P w (upd H a o) h':=fun b u e=>by
 have hn:=x.fresh hp
 by_cases hb:b=a
 ·subst hb;rw [upd_same] at e;cases e;exact new
 ·rw [upd_ne hb] at e
  exact (x b u e).stay (fun c v _ q=>k c v q) (fun c q=>by rw [upd_ne (ne_of_none q hn)];exact q) fun c xs q=>by rw [upd_ne (ne_of_none q hn)];exact q
end
noncomputable def Rd (H:Hp) (a:Addr) (u:HO):Prop:=H a=some u∨∃o,H a=some (.frz o u)
theorem Rd.ok {P:Program} {w:World} {H:Hp} {h:Heap} {a:Addr} {u:HO} (r:Rd H a u) (x:HOk P w H h):ObjOk P w H h a u:=by
 rcases r with r | ⟨o,r⟩
 ·exact x a u r
 ·obtain ⟨_,q⟩:=x a _ r
  exact q
noncomputable def Mut:Option HO→Prop
 | some (.lst _)=>True
 | some (.dK _)=>True
 | some (.dT _)=>True
 | some (.set _ _)=>True
 | some (.ins _ _ _)=>True
 | some (.ext _)=>True
 | _=>False
section
variable {P:Program} {w:World} {H:Hp} {h h':Heap} {x e:Addr} {o':HO}
theorem HOk.write (ok:HOk P w H h) (mu:Mut (H x)) (he:e=x∨H e=some (.own x)) (k:∀b u,b≠e→h.get? b=some u→h'.get? b=some u) (heo:∃u,h'.get? e=some u)
  (new:ObjOk P w (upd H x o') h' x o'):HOk P w (upd H x o') h':=fun b u q=>by
 have nown:∀c y,H c=some (.own y)→c≠x:=fun c y r z=>by subst z;rw [r] at mu;exact mu
 have ntup:∀c xs,H c=some (.tup xs)→c≠x:=fun c xs r z=>by subst z;rw [r] at mu;exact mu
 by_cases hb:b=x
 ·subst hb;rw [upd_same] at q;cases q;exact new
 ·rw [upd_ne hb] at q
  by_cases hbe:b=e
  ·have q':H b=some (.own x):=by
    rcases he with z | z
    ·exact absurd (hbe.trans z) hb
    ·rw [hbe];exact z
   rw [q] at q';cases q'
   obtain ⟨v,hv⟩:=heo
   exact ⟨v,by rw [hbe];exact hv⟩
  ·refine (ok b u q).stay (fun c v hc r=>k c v ?_ r) (fun c r=>by rw [upd_ne (nown c b r)];exact r) fun c xs r=>by rw [upd_ne (ntup c xs r)];exact r
   rcases hc with rfl | hc
   ·exact hbe
   ·rintro rfl
    rcases he with z | z
    ·exact nown c b hc z
    ·rw [hc] at z;cases z;exact hb rfl
end
structure Un (fs ex:List Addr) (H H':Hp) (h h':Heap):Prop where
 keep:∀b o,h.get? b=some o→H b=none→b∉fs→b∉ex→h'.get? b=some o
 slot:∀b o,h.get? b=some o→H b=none→b∈fs→b∉ex→∃sl,h'.get? b=some {o with slots:=sl}
 free:∀b o,h.get? b=some o→H b=none→b∉ex→H' b=none
 there:∀b o,h.get? b=some o→b∉ex→∃o',h'.get? b=some o'
 tups:∀b xs,H b=some (.tup xs)→H' b=some (.tup xs)
 frzs:∀b o u,H b=some (.frz o u)→H' b=some (.frz o u)
 tbls:∀b ps,H b=some (.tbl ps)→∃more,H' b=some (.tbl (ps++more))
section
variable {fs fs' ex ex':List Addr} {H H1 H2:Hp} {h h1 h2 h':Heap} {a x e:Addr} {o:HO}
theorem Un.any (u:Un fs ex H H1 h h1) {b:Addr} {ob:Obj} (q:h.get? b=some ob) (n:H b=none) (hx:b∉ex):∃sl,h1.get? b=some {ob with slots:=sl}:=by
 by_cases hb:b∈fs
 ·exact u.slot b ob q n hb hx
 ·exact ⟨ob.slots,u.keep b ob q n hb hx⟩
theorem Un.kept (k:∀b u,h.get? b=some u→h'.get? b=some u):Un fs ex H H h h':=
 ⟨fun b ob q _ _ _=>k b ob q,fun b ob q _ _ _=>⟨ob.slots,k b ob q⟩,fun _ _ _ n _=>n,fun b ob q _=>⟨ob,k b ob q⟩,fun _ _ q=>q,fun _ _ _ q=>q,fun _ ps q=>⟨#[],by rw [q];simp⟩⟩
theorem Un.refl:Un fs ex H H h h:=Un.kept fun _ _ q=>q
theorem Un.laid (k:∀b u,h.get? b=some u→h'.get? b=some u) (hp:h.objs.size≤a) (hn:H a=none):Un fs ex H (upd H a o) h h' where
 keep:=fun b u q _ _ _=>k b u q
 slot:=fun b u q _ _ _=>⟨u.slots,k b u q⟩
 free:=fun b u q n _=>by rw [upd_ne (Nat.ne_of_lt (Nat.lt_of_lt_of_le (Heap.lt_size q) hp))];exact n
 there:=fun b u q _=>⟨u,k b u q⟩
 tups:=fun b xs q=>by rw [upd_ne (ne_of_none q hn)];exact q
 frzs:=fun b u xs q=>by rw [upd_ne (ne_of_none q hn)];exact q
 tbls:=fun b ps q=>⟨#[],by rw [upd_ne (ne_of_none q hn),q];simp⟩
theorem Un.write (mu:Mut (H x)) (he:e=x∨H e=some (.own x)) (k:∀b u,b≠e→h.get? b=some u→h'.get? b=some u) (heo:∃u,h'.get? e=some u):Un fs ex H (upd H x o) h h':=by
 have hx:∀b,H b=none→b≠x:=fun b n z=>by subst z;rw [n] at mu;exact mu
 have hb:∀b,H b=none→b≠e:=fun b n z=>by
  subst z
  rcases he with r | r
  ·exact hx b n r
  ·rw [n] at r;cases r
 have hm:∀b u,H b=some u→¬Mut (some u)→b≠x:=fun b u q nm z=>by subst z;rw [q] at mu;exact nm mu
 refine ⟨fun b u q n _ _=>k b u (hb b n) q,fun b u q n _ _=>⟨u.slots,k b u (hb b n) q⟩,fun b u q n _=>by rw [upd_ne (hx b n)];exact n,fun b u q _=>?_,
  fun b xs q=>by rw [upd_ne (hm b _ q fun z=>z)];exact q,fun b u xs q=>by rw [upd_ne (hm b _ q fun z=>z)];exact q,fun b ps q=>⟨#[],by rw [upd_ne (hm b _ q fun z=>z),q];simp⟩⟩
 by_cases hbe:b=e
 ·subst hbe;exact heo
 ·exact ⟨u,k b u hbe q⟩
end
noncomputable def trk (h:Heap) (H:Hp):List Addr:=(List.range h.objs.size).filter fun a=>(H a).isSome
noncomputable def hidT (h:Heap) (H:Hp):Heap:=PySem.W.hideAll h (trk h H)
theorem hidT_size (h:Heap) (H:Hp):(hidT h H).objs.size=h.objs.size:=PySem.W.hideAll_size _ _
theorem hidT_get {h:Heap} {H:Hp} {b:Addr} {o:Obj} (e:h.get? b=some o) (n:H b=none):(hidT h H).get? b=some o:=
 PySem.W.hideAll_get _ e fun hm=>by
  have q:(H b).isSome=true:=(List.mem_filter.mp hm).2
  rw [n] at q;simp at q
theorem of_hidT {h:Heap} {H:Hp} {b:Addr} {o:Obj} (e:(hidT h H).get? b=some o):h.get? b=some o∧H b=none:=by
 have e':h.get? b=some o:=PySem.W.of_hideAll (trk h H) e
 refine ⟨e',?_⟩
 cases q:H b with
 | none=>rfl
 | some x=>
  have hm:b∈trk h H:=List.mem_filter.mpr ⟨List.mem_range.mpr (Heap.lt_size e'),by simp [q]⟩
  have z:(hidT h H).get? b=none:=PySem.W.hideAll_none (trk h H) hm
  rw [z] at e;cases e
noncomputable def allNews (g h:Heap) (L:Addr):List (Addr × Obj):=(List.range h.objs.size).filterMap fun a=>if a=L∨(g.get? a).isSome=true then none else (h.get? a).map fun o=>(a,o)
noncomputable def rest (g h:Heap) (L d:Addr):List (Addr × Obj):=(allNews g h L).filter fun p=>decide (p.1≠d)
open PySem PySem.Spec PyProof.Rows
structure Mod (K:PySem.W.Frag) (mg:Str→Option Value) (base:Heap):Prop where
 kin:K.In base
 glob:base.Ns mainGlobals mg
 blt:∃mb,base.Ns builtinsNs mb∧∀x:Str,x≠"__name__"→mb x=bootBuiltins x
 nolimit:base.NoLimit
structure Cx where
 prog:Program
 w:World
 K:PySem.W.Frag
 mg:Str→Option Value
 base:Heap
 A:Around
 N:List Str
 s₀:Shared
 H₀:Hp
 env:Env
 outer:List Env
 stack:List Env
 ex:List Addr
 fn:Str→Bool
 calm:Bool
 pn:List (Addr × Obj)
 xe:Value→Shared→Prop
noncomputable def frs (l:List Env):List Addr:=l.filterMap (·.frame)
noncomputable abbrev Cx.fs (X:Cx):List Addr:=frs X.outer
noncomputable def Vis (sc:Scope) (x:Str):Prop:=sc.names.lookup x=some .local∨sc.names.lookup x=some .cell∨sc.names.lookup x=some .free
noncomputable def Loc (sc:Scope) (x:Str):Prop:=sc.names.lookup x=some .local∨sc.names.lookup x=some .cell
noncomputable def Look (env:Env) (h:Heap) (m:Str→Option Value) (x:Str) (u:Value):Prop:=
 (env.kindOf x=some .local∧m x=some u)∨((env.kindOf x=some .cell∨env.kindOf x=some .free)∧∃c,env.cells.lookup x=some c∧h.IsCell c (some u))
structure Cx.Ok (X:Cx):Prop where
 mod:Mod X.K X.mg X.base
 kind:X.env.scope.kind=.function
 glob:X.env.globals=mainGlobals
 blt:X.env.builtins=builtinsNs
 above:X.s₀.heap.objs.size≤X.env.locals
 inj:∀x y c,X.env.cells.lookup x=some c→X.env.cells.lookup y=some c→x=y
 has:∀x,(X.env.kindOf x=some .cell∨X.env.kindOf x=some .free)→∃c,X.env.cells.lookup x=some c
 cab:∀x c,X.fn x=true→X.env.cells.lookup x=some c→X.s₀.heap.objs.size≤c
 hd:X.calm=true→X.A.handled=none
 frames:X.A.frames=some X.stack
 stk:X.stack=X.outer∨(X.stack=X.env::X.outer∧X.env.frame=some X.env.locals)
 exf:∀b∈X.ex,b≠X.env.locals∧∀x c,X.env.cells.lookup x=some c→c≠b
 bs:∀b o,X.base.get? b=some o→X.s₀.heap.get? b=some o∧X.H₀ b=none
 bsz:X.base.objs.size≤X.s₀.heap.objs.size
 noex:∀b o,X.base.get? b=some o→b∉X.ex
 exfs:∀b∈X.ex,b∉X.fs
 funs:X.s₀.heap.FunFrames X.base X.outer
 frf:∀b∈X.fs,X.H₀ b=none
structure Inv (X:Cx) (pins:List (Addr × Obj)) (σ:List (Option V)) (H:Hp) (s:Shared):Prop where
 ok:X.Ok
 os:s.os=X.s₀.os
 bare:AllBare s.gens
 base:Un X.fs X.ex X.H₀ H X.s₀.heap s.heap
 loc:∃m,s.heap.Ns X.env.locals m∧∀(i:Nat) (x:Str) (v:V),X.N[i]?=some x→σ[i]?=some (some v)→Vis X.env.scope x→∃u,RelV v u∧Look X.env s.heap m x u
 cell:∀x c,X.env.cells.lookup x=some c→∃v,s.heap.IsCell c v
 free:H X.env.locals=none
 freeC:∀x c,X.env.cells.lookup x=some c→H c=none
 pin:∀p∈X.pn++pins,s.heap.get? p.1=some p.2∧H p.1=none∧p.1≠X.env.locals∧p.1∉X.fs∧∀v,p.2.data≠.cell v
 hok:HOk X.prog X.w H s.heap
 len:σ.length=X.N.length
section
variable {X:Cx} {pins:List (Addr × Obj)} {σ:List (Option V)} {H H':Hp} {s:Shared} {h':Heap}
theorem Cx.Ok.nofr (ok:X.Ok) {b:Addr} {o:Obj} (e:X.base.get? b=some o):b∉X.fs:=fun hb=>by
 have:=(ok.funs.mem hb).1
 rw [e] at this;cases this
theorem Inv.bs (I:Inv X pins σ H s):∀b o,X.base.get? b=some o→s.heap.get? b=some o∧H b=none:=fun b o e=>
 ⟨I.base.keep b o (I.ok.bs b o e).1 (I.ok.bs b o e).2 (I.ok.nofr e) (I.ok.noex b o e),I.base.free b o (I.ok.bs b o e).1 (I.ok.bs b o e).2 (I.ok.noex b o e)⟩
theorem Inv.bk (I:Inv X pins σ H s):∀b o,X.base.get? b=some o→s.heap.get? b=some o:=fun b o e=>(I.bs b o e).1
theorem Inv.mod (I:Inv X pins σ H s):Mod X.K X.mg X.base:=I.ok.mod
theorem Inv.kIn (I:Inv X pins σ H s):X.K.In s.heap:=I.ok.mod.kin.keeps I.bk
theorem Inv.lt (I:Inv X pins σ H s):X.env.locals < s.heap.objs.size:=let ⟨_,hn,_⟩:=I.loc;hn.lt
theorem Inv.sz (I:Inv X pins σ H s):X.s₀.heap.objs.size≤s.heap.objs.size:=Nat.le_trans I.ok.above (Nat.le_of_lt I.lt)
theorem Inv.nofs (I:Inv X pins σ H s) {a:Addr} (h:s.heap.objs.size≤a):a∉X.fs:=fun hb=>by
 obtain ⟨_,o,ho,_⟩:=I.ok.funs.mem hb
 exact absurd (Nat.lt_of_lt_of_le (Heap.lt_size ho) (Nat.le_trans I.sz h)) (Nat.lt_irrefl _)
theorem Inv.cne (I:Inv X pins σ H s):∀x c,X.env.cells.lookup x=some c→c≠X.env.locals:=fun x c e z=>by
 obtain ⟨v,o,ho,hd⟩:=I.cell x c e
 obtain ⟨m,⟨o',es,ep,ho',hd',_⟩,_⟩:=I.loc
 rw [z,ho'] at ho;cases ho;rw [hd'] at hd;cases hd
theorem Inv.funs (I:Inv X pins σ H s):s.heap.FunFrames X.base X.outer:=by
 have all:∀(l:List Env),(∀b∈frs l,b∈X.fs)→X.s₀.heap.FunFrames X.base l→s.heap.FunFrames X.base l:=by
  intro l
  induction l with
  | nil=>intro _ _;trivial
  | cons env r ih=>
   intro hs hl
   obtain ⟨hk,⟨L,o,hf,hn,ho,hd⟩,hr⟩:=hl
   have hL:L∈X.fs:=hs L (by unfold frs;rw [List.filterMap_cons,hf];exact List.mem_cons_self)
   obtain ⟨sl,e⟩:=I.base.slot L o ho (I.ok.frf L hL) hL fun z=>I.ok.exfs L z hL
   exact ⟨hk,⟨L,_,hf,hn,e,hd⟩,ih (fun b hb=>hs b (by unfold frs;rw [List.filterMap_cons,hf];exact List.mem_cons_of_mem _ hb)) hr⟩
 exact all X.outer (fun _ hb=>hb) I.ok.funs
theorem Inv.stack (I:Inv X pins σ H s):s.heap.FunFrames X.base X.stack:=by
 rcases I.ok.stk with e | ⟨e,hf⟩
 ·rw [e];exact I.funs
 ·rw [e]
  obtain ⟨m,hn,_⟩:=I.loc
  refine .cons (by rw [I.ok.kind];decide) hf hn ?_ I.funs
  exact Heap.get?_none_of_le (Nat.le_trans I.ok.bsz I.ok.above)
theorem Inv.stkSub (I:Inv X pins σ H s):∀b∈frs X.stack,b∈X.env.locals::X.fs:=fun b hb=>by
 rcases I.ok.stk with e | ⟨e,hf⟩
 ·rw [e] at hb;exact List.mem_cons_of_mem _ hb
 ·rw [e] at hb
  unfold frs at hb
  rw [List.filterMap_cons,hf] at hb
  exact hb
theorem Inv.stkFree (I:Inv X pins σ H s):∀b∈frs X.stack,H b=none:=fun b hb=>by
 rcases List.mem_cons.mp (I.stkSub b hb) with e | hb
 ·rw [e];exact I.free
 ·obtain ⟨_,o,ho,_⟩:=I.ok.funs.mem hb
  exact I.base.free b o ho (I.ok.frf b hb) fun z=>I.ok.exfs b z hb
theorem Inv.step {g':Array GenState} {t':Nat} {d':Drawn} {ch:List Addr} (I:Inv X pins σ H s)
  (hch:∀b∈ch,(b∈X.ex∨X.s₀.heap.objs.size≤b)∧b≠X.env.locals∧(∀x c,X.env.cells.lookup x=some c→c≠b)∧∀p∈X.pn++pins,p.1≠b)
  (keep:∀b o,b≠X.env.locals→b∉X.fs→b∉ch→s.heap.get? b=some o→H b=none→h'.get? b=some o)
  (slot:∀b o,b≠X.env.locals→b∈X.fs→b∉ch→s.heap.get? b=some o→H b=none→∃sl,h'.get? b=some {o with slots:=sl}) (free:∀b o,b∉ch→s.heap.get? b=some o→H b=none→H' b=none)
  (there:∀b o,b∉ch→s.heap.get? b=some o→∃o',h'.get? b=some o')
  (tups:∀b xs,H b=some (.tup xs)→H' b=some (.tup xs)) (frzs:∀b o u,H b=some (.frz o u)→H' b=some (.frz o u)) (tbls:∀b ps,H b=some (.tbl ps)→∃more,H' b=some (.tbl (ps++more)))
  (ns:∀m,s.heap.Ns X.env.locals m→h'.Ns X.env.locals m) (hok:HOk X.prog X.w H' h') (hg:AllBare g'):
  Inv X pins σ H' {s with heap:=h',gens:=g',drawn:=d',toks:=t'}:=by
 have neL:∀b o,X.s₀.heap.get? b=some o→b≠X.env.locals:=fun b o e=>Nat.ne_of_lt (Nat.lt_of_lt_of_le (Heap.lt_size e) I.ok.above)
 have neC:∀b o,X.s₀.heap.get? b=some o→b∉X.ex→b∉ch:=fun b o e hx hb=>by
  rcases (hch b hb).1 with z | z
  ·exact hx z
  ·exact absurd (Nat.lt_of_lt_of_le (Heap.lt_size e) z) (Nat.lt_irrefl _)
 have cellK:∀x c,X.env.cells.lookup x=some c→∀v,s.heap.IsCell c v→h'.IsCell c v:=fun x c e v ⟨o,ho,hd⟩=>by
  have nch:c∉ch:=fun z=>(hch c z).2.2.1 x c e rfl
  by_cases hc:c∈X.fs
  ·obtain ⟨sl,q⟩:=slot c o (I.cne x c e) hc nch ho (I.freeC x c e)
   exact ⟨_,q,hd⟩
  ·exact ⟨o,keep c o (I.cne x c e) hc nch ho (I.freeC x c e),hd⟩
 refine ⟨I.ok,I.os,hg,⟨fun b o e n hb hx=>?_,fun b o e n hb hx=>?_,fun b o e n hx=>?_,fun b o e hx=>?_,fun b xs e=>tups b xs (I.base.tups b xs e),fun b o xs e=>frzs b o xs (I.base.frzs b o xs e),fun b ps e=>?_⟩,?_,fun x c e=>?_,?_,fun x c e=>?_,fun p hp=>?_,hok,I.len⟩
 ·exact keep b o (neL b o e) hb (neC b o e hx) (I.base.keep b o e n hb hx) (I.base.free b o e n hx)
 ·obtain ⟨sl,e1⟩:=I.base.slot b o e n hb hx
  obtain ⟨sl',e2⟩:=slot b _ (neL b o e) hb (neC b o e hx) e1 (I.base.free b o e n hx)
  exact ⟨sl',e2⟩
 ·obtain ⟨o',e1⟩:=I.base.there b o e hx
  exact free b o' (neC b o e hx) e1 (I.base.free b o e n hx)
 ·obtain ⟨o',e1⟩:=I.base.there b o e hx
  exact there b o' (neC b o e hx) e1
 ·obtain ⟨m1,e1⟩:=I.base.tbls b ps e
  obtain ⟨m2,e2⟩:=tbls b _ e1
  exact ⟨m1++m2,by rw [e2,Array.append_assoc]⟩
 ·obtain ⟨m,hn,hl⟩:=I.loc
  refine ⟨m,ns m hn,fun i x v e1 e2 e3=>?_⟩
  obtain ⟨u,r,l⟩:=hl i x v e1 e2 e3
  refine ⟨u,r,?_⟩
  rcases l with l | ⟨k,c,e,z⟩
  ·exact .inl l
  ·exact .inr ⟨k,c,e,cellK x c e _ z⟩
 ·obtain ⟨v,z⟩:=I.cell x c e
  exact ⟨v,cellK x c e v z⟩
 ·obtain ⟨m,⟨o,_,_,ho,_⟩,_⟩:=I.loc
  exact free _ o (fun z=>(hch _ z).2.1 rfl) ho I.free
 ·obtain ⟨v,o,ho,hd⟩:=I.cell x c e
  exact free c o (fun z=>(hch c z).2.2.1 x c e rfl) ho (I.freeC x c e)
 ·obtain ⟨e,n,ne,nf,d⟩:=I.pin p hp
  have nch:p.1∉ch:=fun z=>(hch p.1 z).2.2.2 p hp rfl
  exact ⟨keep p.1 p.2 ne nf nch e n,free p.1 p.2 nch e n,ne,nf,d⟩
theorem Inv.un {t':Nat} (I:Inv X pins σ H s) (u:Un X.fs [] H H' s.heap h') (hok:HOk X.prog X.w H' h'):Inv X pins σ H' {s with heap:=h',toks:=t'}:=by
 obtain ⟨m,⟨o,es,ep,ho,r⟩,_⟩:=id I.loc
 obtain ⟨sl,hL⟩:=u.any ho I.free (by simp)
 exact I.step (g':=s.gens) (d':=s.drawn) (ch:=[]) (fun _ z=>nomatch z) (fun b o _ hb _ e n=>u.keep b o e n hb (by simp)) (fun b o _ hb _ e n=>u.slot b o e n hb (by simp)) (fun b o _ e n=>u.free b o e n (by simp)) (fun b o _ e=>u.there b o e (by simp)) u.tups u.frzs u.tbls (fun m' hm=>by
  obtain ⟨o',es',ep',ho',r'⟩:=hm
  rw [ho] at ho';cases ho'
  exact ⟨_,es',ep',hL,r'⟩) hok I.bare
theorem Inv.call {g':Array GenState} {t':Nat} {d':Drawn} {ch:List Addr} (I:Inv X pins σ H s) (u:Un (frs X.stack) ch H H' s.heap h') (hok:HOk X.prog X.w H' h') (hg:AllBare g')
  (hch:∀b∈ch,(b∈X.ex∨X.s₀.heap.objs.size≤b)∧b≠X.env.locals∧(∀x c,X.env.cells.lookup x=some c→c≠b)∧∀p∈X.pn++pins,p.1≠b):
  Inv X pins σ H' {s with heap:=h',gens:=g',drawn:=d',toks:=t'}:=by
 obtain ⟨m,⟨o,es,ep,ho,r⟩,_⟩:=id I.loc
 obtain ⟨sl,hL⟩:=u.any ho I.free fun z=>(hch _ z).2.1 rfl
 exact I.step (ch:=ch) hch (fun b o hL hb hc e n=>u.keep b o e n (fun z=>(List.mem_cons.mp (I.stkSub b z)).elim hL hb) hc) (fun b o _ _ hc e n=>u.any e n hc) (fun b o hc e n=>u.free b o e n hc) (fun b o hc e=>u.there b o e hc) u.tups u.frzs u.tbls (fun m' hm=>by
  obtain ⟨o',es',ep',ho',r'⟩:=hm
  rw [ho] at ho';cases ho'
  exact ⟨_,es',ep',hL,r'⟩) hok hg
theorem Inv.turned {t':Nat} {it:Addr} (I:Inv X pins σ H s) (k:∀b o,b≠it→s.heap.get? b=some o→h'.get? b=some o) (hn:H it=none) (hL:it≠X.env.locals)
  (h1:it∈X.ex∨X.s₀.heap.objs.size≤it) (h2:∀x c,X.env.cells.lookup x=some c→c≠it) (h3:∀p∈X.pn++pins,p.1≠it):Inv X pins σ H {s with heap:=h',toks:=t'}:=by
 have nit:∀b u,H b=some u→b≠it:=fun b u e z=>by rw [z,hn] at e;cases e
 refine I.step (g':=s.gens) (d':=s.drawn) (ch:=[it]) (fun b hb=>?_) (fun b o _ _ hc e _=>k b o (fun z=>hc (by simp [z])) e) (fun b o _ _ hc e _=>⟨o.slots,k b o (fun z=>hc (by simp [z])) e⟩) (fun _ _ _ _ n=>n)
  (fun b o hc e=>⟨o,k b o (fun z=>hc (by simp [z])) e⟩) (fun _ _ e=>e) (fun _ _ _ e=>e) (fun b ps e=>⟨#[],by rw [e];simp⟩) (fun m hm=>?_) (fun b u e=>?_) I.bare
 ·have e:b=it:=by simpa using hb
  subst e
  exact ⟨h1,hL,h2,h3⟩
 ·obtain ⟨o,es,ep,ho,r⟩:=hm
  exact ⟨o,es,ep,k _ o (Ne.symm hL) ho,r⟩
 ·refine (I.hok b u e).stay (fun c v hc q=>k c v ?_ q) (fun _ q=>q) fun _ _ q=>q
  rcases hc with z | z
  ·rw [z];exact nit b u e
  ·exact nit c _ z
theorem Inv.tok (I:Inv X pins σ H s) (t:Nat):Inv X pins σ H {s with toks:=t}:=I.un (h':=s.heap) (t':=t) Un.refl I.hok
theorem Inv.kept {t':Nat} (I:Inv X pins σ H s) (k:∀b u,s.heap.get? b=some u→h'.get? b=some u):Inv X pins σ H {s with heap:=h',toks:=t'}:=I.un (Un.kept k) (I.hok.kept k)
theorem Inv.laid {a:Addr} {o:HO} {t':Nat} (I:Inv X pins σ H s) (k:∀b u,s.heap.get? b=some u→h'.get? b=some u) (hp:s.heap.objs.size≤a) (new:ObjOk X.prog X.w (upd H a o) h' a o):
  Inv X pins σ (upd H a o) {s with heap:=h',toks:=t'}:=I.un (Un.laid k hp (I.hok.fresh hp)) (I.hok.laid k hp new)
theorem Inv.write {x e:Addr} {o:HO} {t':Nat} (I:Inv X pins σ H s) (mu:Mut (H x)) (he:e=x∨H e=some (.own x)) (k:∀b u,b≠e→s.heap.get? b=some u→h'.get? b=some u) (heo:∃u,h'.get? e=some u)
  (new:ObjOk X.prog X.w (upd H x o) h' x o):Inv X pins σ (upd H x o) {s with heap:=h',toks:=t'}:=I.un (Un.write mu he k heo) (I.hok.write mu he k heo new)
theorem Inv.pins_of {pins':List (Addr × Obj)} (I:Inv X pins σ H s) (h:∀p∈pins',s.heap.get? p.1=some p.2∧H p.1=none∧p.1≠X.env.locals∧p.1∉X.fs∧∀v,p.2.data≠.cell v):Inv X pins' σ H s:=
 ⟨I.ok,I.os,I.bare,I.base,I.loc,I.cell,I.free,I.freeC,fun p hp=>(List.mem_append.mp hp).elim (fun z=>I.pin p (List.mem_append_left _ z)) (h p),I.hok,I.len⟩
theorem nodup_ix {N:List Str} (hN:N.Nodup) {i j:Nat} {x:Str} (a:N[i]?=some x) (b:N[j]?=some x):i=j:=by
 obtain ⟨h1,e1⟩:=List.getElem?_eq_some_iff.mp a
 obtain ⟨h2,e2⟩:=List.getElem?_eq_some_iff.mp b
 exact (List.getElem_inj hN).mp (e1.trans e2.symm)
theorem store_ok2 {M:Model} {A:Around} {E:Value→Shared→Prop} {i:Nat} {x:Str} {v:V} {u:Value} {Q:Unit→Shared→Prop} (I:Inv X pins σ H s) (hN:X.N.Nodup) (hi:X.N[i]?=some x) (hx:Loc X.env.scope x) (r:RelV v u)
  (h:∀s',Inv X pins (σ.set i (some v)) H s'→(∃a,Heap.SameBut a s.heap s'.heap∧(a=X.env.locals∨X.env.cells.lookup x=some a))→Q () s') (hf:X.fn x=true∨X.env.scope.names.lookup x=some .local:=by first | exact .inl rfl | exact .inr rfl | assumption):wpAny M A (storeName X.env x u) Q E s:=by
 obtain ⟨m,hn,hl⟩:=id I.loc
 have hcls:(X.env.scope.kind==.class || (X.env.scope.kind==.module && X.env.locals !=X.env.globals))=false:=by rw [I.ok.kind];rfl
 have hiσ:i < σ.length:=by rw [I.len];exact (List.getElem?_eq_some_iff.mp hi).1
 have cne:=I.cne
 have tracked:∀{a:Addr} {h':Heap},(∃o,s.heap.get? a=some o∧H a=none)→Heap.SameBut a s.heap h'→HOk X.prog X.w H h':=fun {a h'} ha hs b ob e=>by
  obtain ⟨_,_,hfree⟩:=ha
  refine (I.hok b ob e).stay (fun c w' hc q=>(hs.2 c ?_).trans q) (fun _ q=>q) fun _ _ q=>q
  rintro rfl
  rcases hc with rfl | hc
  ·rw [hfree] at e;cases e
  ·rw [hfree] at hc;cases hc
 rcases hx with hk | hk
 ·refine wpAny_storeName_local hk hn (fun h' hn' hs=>?_) hcls
  obtain ⟨oL,_,_,hoL,_⟩:=id hn
  refine h _ ⟨I.ok,I.os,I.bare,⟨fun b o e n hb hx=>?_,fun b o e n hb hx=>?_,I.base.free,fun b o e hx=>?_,I.base.tups,I.base.frzs,I.base.tbls⟩,⟨_,hn',fun j y v' e1 e2 e3=>?_⟩,fun y c e=>?_,I.free,I.freeC,fun p hp=>?_,tracked ⟨oL,hoL,I.free⟩ hs,by simpa using I.len⟩ ⟨_,hs,.inl rfl⟩
  ·exact (hs.2 b (Nat.ne_of_lt (Nat.lt_of_lt_of_le (Heap.lt_size e) I.ok.above))).trans (I.base.keep b o e n hb hx)
  ·obtain ⟨sl,e1⟩:=I.base.slot b o e n hb hx
   exact ⟨sl,(hs.2 b (Nat.ne_of_lt (Nat.lt_of_lt_of_le (Heap.lt_size e) I.ok.above))).trans e1⟩
  ·obtain ⟨o',e1⟩:=I.base.there b o e hx
   exact ⟨o',(hs.2 b (Nat.ne_of_lt (Nat.lt_of_lt_of_le (Heap.lt_size e) I.ok.above))).trans e1⟩
  ·by_cases hj:j=i
   ·subst hj
    rw [hi] at e1;cases e1
    rw [List.getElem?_set_self hiσ] at e2
    cases e2
    exact ⟨u,r,.inl ⟨hk,by simp⟩⟩
   ·rw [List.getElem?_set_ne (Ne.symm hj)] at e2
    obtain ⟨u',r',q⟩:=hl j y v' e1 e2 e3
    refine ⟨u',r',?_⟩
    rcases q with ⟨k,e⟩ | ⟨k,c,e,z⟩
    ·refine .inl ⟨k,?_⟩
     have:y≠x:=fun e=>hj (nodup_ix hN e1 (e▸hi))
     simp [this,e]
    ·exact .inr ⟨k,c,e,z.sameBut hs (cne y c e)⟩
  ·obtain ⟨w',z⟩:=I.cell y c e
   exact ⟨w',z.sameBut hs (cne y c e)⟩
  ·obtain ⟨e,n,ne,nf,d⟩:=I.pin p hp
   exact ⟨(hs.2 p.1 ne).trans e,n,ne,nf,d⟩
 ·have hfn:X.fn x=true:=by
   rcases hf with z | z
   ·exact z
   ·rw [z] at hk;cases hk
  obtain ⟨c,hc⟩:=I.ok.has x (.inl hk)
  obtain ⟨w',z⟩:=I.cell x c hc
  refine wpAny_storeName_cell I.ok.kind hk hc z (fun h' hc' hs=>?_)
  obtain ⟨oc,hoc,hocd⟩:=id z
  refine h {s with heap:=h'} ⟨I.ok,I.os,I.bare,⟨fun b o e n hb hx=>?_,fun b o e n hb hx=>?_,I.base.free,fun b o e hx=>?_,I.base.tups,I.base.frzs,I.base.tbls⟩,⟨m,hn.sameBut hs (Ne.symm (cne x c hc)),fun j y v' e1 e2 e3=>?_⟩,fun y c' e=>?_,I.free,I.freeC,fun p hp=>?_,tracked ⟨oc,hoc,I.freeC x c hc⟩ hs,by simpa using I.len⟩ ⟨c,hs,.inr hc⟩
  ·exact (hs.2 b (Nat.ne_of_lt (Nat.lt_of_lt_of_le (Heap.lt_size e) (I.ok.cab x c hfn hc)))).trans (I.base.keep b o e n hb hx)
  ·obtain ⟨sl,e1⟩:=I.base.slot b o e n hb hx
   exact ⟨sl,(hs.2 b (Nat.ne_of_lt (Nat.lt_of_lt_of_le (Heap.lt_size e) (I.ok.cab x c hfn hc)))).trans e1⟩
  ·obtain ⟨o',e1⟩:=I.base.there b o e hx
   exact ⟨o',(hs.2 b (Nat.ne_of_lt (Nat.lt_of_lt_of_le (Heap.lt_size e) (I.ok.cab x c hfn hc)))).trans e1⟩
  ·by_cases hj:j=i
   ·subst hj
    rw [hi] at e1;cases e1
    rw [List.getElem?_set_self hiσ] at e2
    cases e2
    exact ⟨u,r,.inr ⟨.inl hk,c,hc,hc'⟩⟩
   ·rw [List.getElem?_set_ne (Ne.symm hj)] at e2
    obtain ⟨u',r',q⟩:=hl j y v' e1 e2 e3
    refine ⟨u',r',?_⟩
    rcases q with q | ⟨k,c',e,z'⟩
    ·exact .inl q
    ·refine .inr ⟨k,c',e,z'.sameBut hs ?_⟩
     rintro rfl
     exact hj (nodup_ix hN e1 (I.ok.inj _ _ _ e hc▸hi))
  ·by_cases hcc:c'=c
   ·subst hcc;exact ⟨_,hc'⟩
   ·obtain ⟨w2,z2⟩:=I.cell y c' e
    exact ⟨w2,z2.sameBut hs hcc⟩
  ·obtain ⟨e,n,ne,nf,d⟩:=I.pin p hp
   refine ⟨(hs.2 p.1 ?_).trans e,n,ne,nf,d⟩
   intro q
   rw [q,hoc] at e
   have q':oc=p.2:=Option.some.inj e
   exact d w' (by rw [←q'];exact hocd)
theorem store_ok {M:Model} {A:Around} {E:Value→Shared→Prop} {i:Nat} {x:Str} {v:V} {u:Value} {Q:Unit→Shared→Prop} (I:Inv X pins σ H s) (hN:X.N.Nodup) (hi:X.N[i]?=some x) (hx:Loc X.env.scope x) (r:RelV v u)
  (h:∀s',Inv X pins (σ.set i (some v)) H s'→Q () s') (hf:X.fn x=true∨X.env.scope.names.lookup x=some .local:=by first | exact .inl rfl | exact .inr rfl | assumption):wpAny M A (storeName X.env x u) Q E s:=
 store_ok2 I hN hi hx r (fun s' I' _=>h s' I') hf
theorem Inv.call' {s':Shared} {ch:List Addr} (I:Inv X pins σ H s) (ho:s'.os=s.os) (u:Un (frs X.stack) ch H H' s.heap s'.heap) (hok:HOk X.prog X.w H' s'.heap) (hg:AllBare s'.gens)
  (hch:∀b∈ch,(b∈X.ex∨X.s₀.heap.objs.size≤b)∧b≠X.env.locals∧(∀x c,X.env.cells.lookup x=some c→c≠b)∧∀p∈X.pn++pins,p.1≠b):Inv X pins σ H' s':=by
 obtain ⟨h',g',d',t',o'⟩:=s'
 have e:o'=s.os:=ho
 subst e
 exact I.call (g':=g') (t':=t') (d':=d') u hok hg hch
end
noncomputable abbrev XK:=Value→Option Addr→Hp→Prop
noncomputable abbrev St:=List (Option V)
noncomputable abbrev VK:=V→Hp→Prop
noncomputable abbrev TE:=St→Hp→VK→Prop
noncomputable abbrev TT:=St→Hp→(Bool→Hp→Prop)→Prop
noncomputable abbrev TA:=St→Hp→(List V→Hp→Prop)→Prop
structure Ends where
 nx:St→Hp→Prop
 rt:VK
 bk:St→Hp→Prop:=fun _ _=>False
 ct:St→Hp→Prop:=fun _ _=>False
noncomputable abbrev TS:=Ends→St→Hp→Prop
noncomputable def EP (X:Cx) (pins:List (Addr × Obj)) (σ:St) (Q:VK) (u:Value) (s':Shared):Prop:=∃v H',Inv X pins σ H' s'∧RelV v u∧Q v H'
noncomputable def TP (X:Cx) (pins:List (Addr × Obj)) (σ:St) (Q:Bool→Hp→Prop) (b:Bool) (s':Shared):Prop:=∃H',Inv X pins σ H' s'∧Q b H'
noncomputable def AP (X:Cx) (pins:List (Addr × Obj)) (σ:St) (Q:List V→Hp→Prop) (us:List Value) (s':Shared):Prop:=∃vs H',Inv X pins σ H' s'∧Vals vs us∧Q vs H'
noncomputable def SP (X:Cx) (pins:List (Addr × Obj)) (D:Ends) (f:Flow) (s':Shared):Prop:=
 match f with
 | .next=>∃σ' H',Inv X pins σ' H' s'∧D.nx σ' H'
 | .brk=>∃σ' H',Inv X pins σ' H' s'∧D.bk σ' H'
 | .cont=>∃σ' H',Inv X pins σ' H' s'∧D.ct σ' H'
 | .ret u=>∃v σ' H',Inv X pins σ' H' s'∧RelV v u∧D.rt v H'
noncomputable def PE (X:Cx) (e:Expr) (t:TE):Prop:=
 ∀(pins:List (Addr × Obj)) (s:Shared) (σ:St) (H:Hp) (Q:VK),Inv X pins σ H s→t σ H Q→wpAny (model X.prog X.w) X.A (eval e X.env) (EP X pins σ Q) X.xe s
noncomputable def PT (X:Cx) (e:Expr) (t:TT):Prop:=
 ∀(pins:List (Addr × Obj)) (s:Shared) (σ:St) (H:Hp) (Q:Bool→Hp→Prop),Inv X pins σ H s→t σ H Q→wpAny (model X.prog X.w) X.A (isTrue e X.env (eval e X.env)) (TP X pins σ Q) X.xe s
noncomputable def PW (X:Cx) (e:Expr) (t:TT):Prop:=
 ∀(whole:Sem Value) (pins:List (Addr × Obj)) (s:Shared) (σ:St) (H:Hp) (Q:Bool→Hp→Prop),Inv X pins σ H s→t σ H Q→wpAny (model X.prog X.w) X.A (isTrue e X.env whole) (TP X pins σ Q) X.xe s
theorem PW.pt {X:Cx} {e:Expr} {t:TT} (h:PW X e t):PT X e t:=h _
noncomputable def PA (X:Cx) (es:List Expr) (t:TA):Prop:=
 ∀(pos:Pos) (pins:List (Addr × Obj)) (s:Shared) (σ:St) (H:Hp) (Q:List V→Hp→Prop),Inv X pins σ H s→t σ H Q→wpAny (model X.prog X.w) X.A (spliced (backTo pos (starEach es X.env))) (AP X pins σ Q) X.xe s
noncomputable def PS (X:Cx) (st:Stmt) (t:TS):Prop:=
 ∀(pins:List (Addr × Obj)) (s:Shared) (σ:St) (H:Hp) (D:Ends),Inv X pins σ H s→t D σ H→wpAny (model X.prog X.w) X.A (exec st X.env) (SP X pins D) X.xe s
noncomputable def PSs (X:Cx) (st:List Stmt) (t:TS):Prop:=
 ∀(pins:List (Addr × Obj)) (s:Shared) (σ:St) (H:Hp) (D:Ends),Inv X pins σ H s→t D σ H→wpAny (model X.prog X.w) X.A (execs st X.env) (SP X pins D) X.xe s
theorem thn {α:Type} {t:Sem α} {Q Q':α→Shared→Prop} {M:Model} {A:Around} {E:Value→Shared→Prop} {s:Shared} (h:wpAny M A t Q E s) (hQ:∀a s,Q a s→Q' a s):wpAny M A t Q' E s:=wpAny_mono h hQ fun _ _ x=>x
open PySem PySem.Spec PyProof.Rows
section
variable {X:Cx}
theorem bin {a b:Expr} {ta tb:TE} (ha:PE X a ta) (hb:PE X b tb) {pins:List (Addr × Obj)} {s:Shared} {σ:St} {H:Hp} {R:V→V→Hp→Prop} (I:Inv X pins σ H s) (h:ta σ H fun x H1=>tb σ H1 fun y H2=>R x y H2)
  {α:Type} {Q:α→Shared→Prop} {f:Value→Value→Sem α}
  (hf:∀v u s2 x y H2,Inv X pins σ H2 s2→RelV x v→RelV y u→R x y H2→wpAny (model X.prog X.w) X.A (f v u) Q X.xe s2):
  wpAny (model X.prog X.w) X.A (eval a X.env) (fun v s₁=>wpAny (model X.prog X.w) X.A (eval b X.env) (fun u s₂=>wpAny (model X.prog X.w) X.A (f v u) Q X.xe s₂) X.xe s₁) X.xe s:=by
 refine thn (ha pins s σ H _ I h) fun v s1 ⟨x,H1,I1,r1,q1⟩=>?_
 refine thn (hb pins s1 σ H1 _ I1 q1) fun u s2 ⟨y,H2,I2,r2,q2⟩=>?_
 exact hf v u s2 x y H2 I2 r1 r2 q2
noncomputable def tVar (i:Nat):TE:=fun σ H Q=>∃v,σ[i]?=some (some v)∧Q v H
noncomputable def tC (v:V):TE:=fun _ H Q=>Q v H
theorem pe_var {i:Nat} {x:Str} {pos:Pos} (hN:X.N[i]?=some x) (hv:Vis X.env.scope x) (hd:(x==("__debug__":Str))=false:=by decide) (hcd:(x==("__classdict__":Str))=false:=by decide):PE X (.Name x pos) (tVar i):=by
 intro pins s σ H Q I h
 obtain ⟨v,e,h⟩:=h
 obtain ⟨m,hn,hl⟩:=I.loc
 obtain ⟨u,r,l⟩:=hl i x v hN e hv
 have fin:EP X pins σ Q u s:=⟨v,H,I,r,h⟩
 rcases l with ⟨hk,hm⟩ | ⟨hk,c,hc,hcell⟩
 ·exact wpAny_Name (wpAny_loadName_local I.ok.kind hk hn hm fin) hd
 ·rcases hk with hk | hk
  ·exact wpAny_Name (wpAny_loadName_cell I.ok.kind hk hc hcell fin) hd
  ·exact wpAny_Name (wpAny_loadName_free I.ok.kind hk hc hcell fin hcd) hd
theorem pe_int {i j pos}:PE X (.Constant (.int i) j pos) (tC (.int i)):=fun _ _ _ H _ I h=>wpAny_Constant_int ⟨.int i,H,I.tok _,⟨_,rfl⟩,h⟩
theorem pe_bl {b j pos}:PE X (.Constant (.bool b) j pos) (tC (.bl b)):=fun _ _ _ H _ I h=>Constant_bool ⟨.bl b,H,I,rfl,h⟩
theorem pe_non {j pos}:PE X (.Constant .none j pos) (tC .non):=fun _ _ _ H _ I h=>Constant_none ⟨.non,H,I,rfl,h⟩
theorem pe_str {x j pos}:PE X (.Constant (.str x) j pos) (tC (.str x)):=fun _ _ _ H _ I h=>Calls.Constant_str ⟨.str x,H,I.tok _,⟨_,rfl⟩,h⟩
noncomputable def Gl (X:Cx) (x:Str):Prop:=X.env.kindOf x=some .globalImplicit
theorem ld_glob {E:Value→Shared→Prop} {pins:List (Addr × Obj)} {s:Shared} {σ:St} {H:Hp} {x:Str} {u:Value} {pos:Pos} {Q:Value→Shared→Prop} (I:Inv X pins σ H s) (hg:Gl X x) (hm:X.mg x=some u) (h:Q u s)
  (hd:(x==("__debug__":Str))=false:=by decide):wpAny (model X.prog X.w) X.A (eval (.Name x pos) X.env) Q E s:=
 Calls.Name_function_global I.ok.kind hg (Calls.loadGlobal_global (by rw [I.ok.glob];exact I.mod.glob.keeps I.bk) hm h) hd
theorem ld_blt {E:Value→Shared→Prop} {pins:List (Addr × Obj)} {s:Shared} {σ:St} {H:Hp} {x:Str} {u:Value} {pos:Pos} {Q:Value→Shared→Prop} (I:Inv X pins σ H s) (hg:Gl X x) (hm:X.mg x=none) (hv:bootBuiltins x=some u) (h:Q u s)
  (hn:x≠"__name__":=by decide) (hd:(x==("__debug__":Str))=false:=by decide):wpAny (model X.prog X.w) X.A (eval (.Name x pos) X.env) Q E s:=by
 obtain ⟨mb,h1,h2⟩:=I.mod.blt
 exact Calls.Name_function_global I.ok.kind hg (Calls.loadGlobal_builtin (by rw [I.ok.glob];exact I.mod.glob.keeps I.bk) hm (by rw [I.ok.blt];exact h1.keeps I.bk) ((h2 x hn).trans hv) h) hd
theorem pe_glob {x:Str} {v:V} {u:Value} {pos:Pos} (hg:Gl X x) (hm:X.mg x=some u) (r:RelV v u) (hd:(x==("__debug__":Str))=false:=by decide):PE X (.Name x pos) (tC v):=
 fun _ _ _ H _ I h=>ld_glob I hg hm ⟨v,H,I,r,h⟩ hd
theorem pe_bltn {x:Str} {v:V} {u:Value} {pos:Pos} (hg:Gl X x) (hm:X.mg x=none) (hv:bootBuiltins x=some u) (r:RelV v u) (hn:x≠"__name__":=by decide) (hd:(x==("__debug__":Str))=false:=by decide):PE X (.Name x pos) (tC v):=
 fun _ _ _ H _ I h=>ld_blt I hg hm hv ⟨v,H,I,r,h⟩ hn hd
variable {a b:Expr} {ta tb:TE} {pos:Pos}
noncomputable def PC (X:Cx) (op:CmpOp) (a b:Expr) (t:TE):Prop:=
 ∀(pins:List (Addr × Obj)) (s:Shared) (σ:St) (H:Hp) (Q:VK),Inv X pins σ H s→t σ H Q→
  wpAny (model X.prog X.w) X.A (eval a X.env) (fun v s₁=>wpAny (model X.prog X.w) X.A (eval b X.env) (fun u s₂=>wpAny (model X.prog X.w) X.A (compareOp op v u) (EP X pins σ Q) X.xe s₂) X.xe s₁) X.xe s
theorem nobehind (b:Expr) {op:CmpOp} (h:op≠.In) (h2:op≠.NotIn):behindInMarks op b=false:=by
 have e1:(op==CmpOp.In)=false:=by cases op <;> first | rfl | exact absurd rfl h
 have e2:(op==CmpOp.NotIn)=false:=by cases op <;> first | rfl | exact absurd rfl h2
 cases b <;> simp [behindInMarks,e1,e2]
noncomputable def tB (t:TE):TT:=fun σ H Q=>t σ H fun x H1=>∃c,x=.bl c∧Q c H1
theorem pe_cmp {op:CmpOp} {t:TE} (h:PC X op a b t) (h1:behindInMarks op b=false:=by first | exact nobehind _ (by decide) (by decide) | rfl):PE X (.Compare a [op] [b] pos) t:=fun pins s σ H Q I hw=>wpAny_Compare1 (h pins s σ H Q I hw) h1
theorem pt_cmp {op:CmpOp} {t:TE} (h:PC X op a b t) (h1:behindInMarks op b=false:=by first | exact nobehind _ (by decide) (by decide) | rfl):PT X (.Compare a [op] [b] pos) (tB t):=by
 intro pins s σ H Q I hw
 refine wpAny_isTrue_Compare1 (thn (h pins s σ H _ I hw) fun v s1 h1=>thn h1 fun u s2 h2=>thn h2 fun c s3 ⟨x,H1,I1,r1,q1⟩=>?_) h1
 obtain ⟨d,rfl,q⟩:=q1
 cases r1
 exact wpAny_truthy_bool ⟨H1,I1,q⟩
theorem pt_val {e:Expr} {t:TE} (h:PE X e t) (he:∀whole,isTrue e X.env whole=(do let v ←whole;standAt e.pos;holding [v] (truthy v)):=by intro _;rfl):PT X e (tB t):=by
 intro pins s σ H Q I hw
 refine isTrue_plain (thn (h pins s σ H _ I hw) fun v s1 ⟨x,H1,I1,r1,q1⟩=>?_) (he _)
 obtain ⟨d,rfl,q⟩:=q1
 cases r1
 exact wpAny_truthy_bool ⟨H1,I1,q⟩
variable {tA tB':TT} {rest:List Expr}
noncomputable def tAnd (t u:TT):TT:=fun σ H Q=>t σ H fun c H1=>if c=true then u σ H1 Q else Q false H1
noncomputable def tOr (t u:TT):TT:=fun σ H Q=>t σ H fun c H1=>if c=true then Q true H1 else u σ H1 Q
noncomputable def tNot (t:TT):TT:=fun σ H Q=>t σ H fun c H1=>Q (!c) H1
theorem pw_and1 (ha:PT X a tA):PW X (.BoolOp .And [a] pos) tA:=by
 intro wh pins s σ H Q I h
 refine isTrue_and (thn (ha pins s σ H Q I h) fun c s1 e=>?_)
 cases c with
 | true=>exact isTrue_and_nil e
 | false=>exact e
theorem pw_or1 (ha:PT X a tA):PW X (.BoolOp .Or [a] pos) tA:=by
 intro wh pins s σ H Q I h
 refine isTrue_or (thn (ha pins s σ H Q I h) fun c s1 e=>?_)
 cases c with
 | false=>exact isTrue_or_nil e
 | true=>exact e
theorem pw_and (ha:PT X a tA) (hb:PW X (.BoolOp .And (b::rest) pos) tB'):PW X (.BoolOp .And (a::b::rest) pos) (tAnd tA tB'):=by
 intro wh pins s σ H Q I h
 refine isTrue_and (thn (ha pins s σ H _ I h) fun c s1 ⟨H1,I1,q1⟩=>?_)
 cases c with
 | true=>exact hb wh pins s1 σ H1 Q I1 q1
 | false=>exact ⟨H1,I1,q1⟩
theorem pw_or (ha:PT X a tA) (hb:PW X (.BoolOp .Or (b::rest) pos) tB'):PW X (.BoolOp .Or (a::b::rest) pos) (tOr tA tB'):=by
 intro wh pins s σ H Q I h
 refine isTrue_or (thn (ha pins s σ H _ I h) fun c s1 ⟨H1,I1,q1⟩=>?_)
 cases c with
 | true=>exact ⟨H1,I1,q1⟩
 | false=>exact hb wh pins s1 σ H1 Q I1 q1
theorem pt_not (ha:PT X a tA):PT X (.UnaryOp .Not a pos) (tNot tA):=by
 intro pins s σ H Q I h
 exact isTrue_not (ha pins s σ H (fun c H1=>Q (!c) H1) I h)
noncomputable def tAndV (ta tb:TE):TE:=fun σ H Q=>ta σ H fun x H1=>∃c,x=.bl c∧if c=true then tb σ H1 Q else Q (.bl false) H1
noncomputable def tOrV (ta tb:TE):TE:=fun σ H Q=>ta σ H fun x H1=>∃c,x=.bl c∧if c=true then Q (.bl true) H1 else tb σ H1 Q
noncomputable def tNotV (ta:TE):TE:=fun σ H Q=>ta σ H fun x H1=>∃c,x=.bl c∧Q (.bl (!c)) H1
theorem pe_one {op} {t:TE} (h:PE X a t):PE X (.BoolOp op [a] pos) t:=fun pins s σ H Q I hw=>BoolOp_one (h pins s σ H Q I hw)
theorem pe_and (ha:PE X a ta) (hb:PE X (.BoolOp .And (b::rest) pos) tb):PE X (.BoolOp .And (a::b::rest) pos) (tAndV ta tb):=by
 intro pins s σ H Q I h
 refine BoolOp_and (thn (ha pins s σ H _ I h) fun v s1 ⟨x,H1,I1,r1,q1⟩=>?_)
 obtain ⟨c,rfl,q1⟩:=q1
 cases r1
 refine wpAny_truthy_bool ?_
 cases c with
 | true=>exact hb pins s1 σ H1 Q I1 q1
 | false=>exact ⟨.bl false,H1,I1,rfl,q1⟩
theorem pe_or (ha:PE X a ta) (hb:PE X (.BoolOp .Or (b::rest) pos) tb):PE X (.BoolOp .Or (a::b::rest) pos) (tOrV ta tb):=by
 intro pins s σ H Q I h
 refine BoolOp_or (thn (ha pins s σ H _ I h) fun v s1 ⟨x,H1,I1,r1,q1⟩=>?_)
 obtain ⟨c,rfl,q1⟩:=q1
 cases r1
 refine wpAny_truthy_bool ?_
 cases c with
 | false=>exact hb pins s1 σ H1 Q I1 q1
 | true=>exact ⟨.bl true,H1,I1,rfl,q1⟩
theorem pe_not (ha:PE X a ta):PE X (.UnaryOp .Not a pos) (tNotV ta):=by
 intro pins s σ H Q I h
 refine UnaryOp_ (thn (ha pins s σ H _ I h) fun v s1 ⟨x,H1,I1,r1,q1⟩=>?_)
 obtain ⟨c,rfl,q1⟩:=q1
 cases r1
 exact not_of (wpAny_truthy_bool ⟨.bl (!c),H1,I1,rfl,q1⟩)
end
open PySem PySem.Spec PyProof.Rows
noncomputable def SqL (K:PySem.W.Frag) (H:Hp) (a:Addr) (xs:List V):Prop:=
 Rd H a (.lst xs)∨
  ∃(o:Obj) (its:Array Value) (n:Nat),K.lookup a=some o∧o.cls=.type "list"∧o.dict=none∧o.data=.seq its n∧its.size≤sizeLine∧Vals xs its.toList
noncomputable def SqT (K:PySem.W.Frag) (H:Hp) (a:Addr) (xs:List V):Prop:=
 Rd H a (.tup xs)∨
  ∃(o:Obj) (its:Array Value) (n:Nat),K.lookup a=some o∧o.cls=.type "tuple"∧o.data=.seq its n∧its.size≤sizeLine∧Vals xs its.toList
noncomputable def absV:Value→Option V
 | .none=>some .non
 | .bool b=>some (.bl b)
 | .int i _=>some (.int i)
 | .str x _=>some (.str x)
 | .bytes b _=>some (.byt b)
 | .float b _=>some (.flt b)
 | .ref a=>some (.ref a)
 | .type n=>some (.ty n)
 | _=>none
theorem RelV.abs {x:V} {u:Value} (r:RelV x u):absV u=some x:=by
 cases x with
 | non=>cases r;rfl
 | bl _=>cases r;rfl
 | int _=>obtain ⟨t,rfl⟩:=r;rfl
 | str _=>obtain ⟨t,rfl⟩:=r;rfl
 | byt _=>obtain ⟨t,rfl⟩:=r;rfl
 | flt _=>obtain ⟨t,rfl⟩:=r;rfl
 | ref _=>cases r;rfl
 | ty _=>cases r;rfl
theorem RelV.inj {x y:V} {u:Value} (r:RelV x u) (q:RelV y u):x=y:=Option.some.inj (r.abs.symm.trans q.abs)
theorem Vals.inj:∀{xs ys:List V} {us:List Value},Vals xs us→Vals ys us→xs=ys
 | _,_,_,.nil,.nil=>rfl
 | _,_,_,.cons r t,.cons r' t'=>by rw [r.inj r',Vals.inj t t']
section
variable {X:Cx} {pins:List (Addr × Obj)} {σ:St} {H:Hp} {s:Shared} {a:Addr} {xs ys:List V}
theorem SqL.of {K:PySem.W.Frag} (h:H a=some (.lst xs)):SqL K H a xs:=.inl (.inl h)
theorem SqT.of {K:PySem.W.Frag} (h:H a=some (.tup xs)):SqT K H a xs:=.inl (.inl h)
theorem Inv.list (I:Inv X pins σ H s) (h:SqL X.K H a xs):∃its:List Value,Vals xs its∧PlainL s.heap a its.toArray∧xs.length≤sizeLine:=by
 rcases h with h | ⟨o,its,n,hk,hc,hd,hs,hz,r⟩
 ·obtain ⟨z,its,n,r,e⟩:=h.ok I.hok
  exact ⟨its,r,⟨_,n,e,rfl,rfl,rfl⟩,z⟩
 ·refine ⟨its.toList,r,⟨o,n,I.kIn a o hk,hc,hd,by simpa using hs⟩,?_⟩
  have e:=r.length
  simp only [Array.length_toList] at e
  omega
theorem Inv.tuple (I:Inv X pins σ H s) (h:SqT X.K H a xs):∃its:List Value,Vals xs its∧IsTup s.heap a its.toArray∧xs.length≤sizeLine:=by
 rcases h with h | ⟨o,its,n,hk,hc,hs,hz,r⟩
 ·obtain ⟨z,its,r,p⟩:=h.ok I.hok
  exact ⟨its,r,p,z⟩
 ·refine ⟨its.toList,r,⟨o,I.kIn a o hk,hc,n,by simpa using hs⟩,?_⟩
  have e:=r.length
  simp only [Array.length_toList] at e
  omega
theorem Inv.list_inj (I:Inv X pins σ H s) (h:SqL X.K H a xs) (h':SqL X.K H a ys):xs=ys:=by
 obtain ⟨its,r,⟨o,n,e,_,_,d⟩,_⟩:=I.list h
 obtain ⟨its',r',⟨o',n',e',_,_,d'⟩,_⟩:=I.list h'
 rw [e] at e';cases e'
 rw [d] at d'
 injection d' with d1 _
 have:its=its':=by simpa using congrArg Array.toList d1
 subst this
 exact r.inj r'
theorem Inv.tuple_inj (I:Inv X pins σ H s) (h:SqT X.K H a xs) (h':SqT X.K H a ys):xs=ys:=by
 obtain ⟨its,r,⟨o,e,_,n,d⟩,_⟩:=I.tuple h
 obtain ⟨its',r',⟨o',e',_,n',d'⟩,_⟩:=I.tuple h'
 rw [e] at e';cases e'
 rw [d] at d'
 injection d' with d1 _
 have:its=its':=by simpa using congrArg Array.toList d1
 subst this
 exact r.inj r'
end
noncomputable abbrev Cx.wish (X:Cx) (E:Value→Shared→Prop):Cx:={X with xe:=E}
noncomputable abbrev Cx.nox (X:Cx):Cx:=X.wish fun _ _=>False
theorem Cx.Ok.wish {X:Cx} (ok:X.Ok) (E:Value→Shared→Prop):(X.wish E).Ok:=
 ⟨ok.mod,ok.kind,ok.glob,ok.blt,ok.above,ok.inj,ok.has,ok.cab,ok.hd,ok.frames,ok.stk,ok.exf,ok.bs,ok.bsz,ok.noex,ok.exfs,ok.funs,ok.frf⟩
theorem Cx.Ok.unwish {X:Cx} {E:Value→Shared→Prop} (ok:(X.wish E).Ok):X.Ok:=
 ⟨ok.mod,ok.kind,ok.glob,ok.blt,ok.above,ok.inj,ok.has,ok.cab,ok.hd,ok.frames,ok.stk,ok.exf,ok.bs,ok.bsz,ok.noex,ok.exfs,ok.funs,ok.frf⟩
section
variable {X:Cx} {pins:List (Addr × Obj)} {σ:St} {H:Hp} {s:Shared} {E:Value→Shared→Prop}
theorem Inv.wish (I:Inv X pins σ H s) (E:Value→Shared→Prop):Inv (X.wish E) pins σ H s:=⟨I.ok.wish E,I.os,I.bare,I.base,I.loc,I.cell,I.free,I.freeC,I.pin,I.hok,I.len⟩
theorem Inv.unwish (I:Inv (X.wish E) pins σ H s):Inv X pins σ H s:=⟨I.ok.unwish,I.os,I.bare,I.base,I.loc,I.cell,I.free,I.freeC,I.pin,I.hok,I.len⟩
theorem SP.unwish {D:Ends} {f:Flow} {s':Shared} (h:SP (X.wish E) pins D f s'):SP X pins D f s':=by
 cases f with
 | next=>obtain ⟨σ',H',I,q⟩:=h;exact ⟨σ',H',I.unwish,q⟩
 | brk=>obtain ⟨σ',H',I,q⟩:=h;exact ⟨σ',H',I.unwish,q⟩
 | cont=>obtain ⟨σ',H',I,q⟩:=h;exact ⟨σ',H',I.unwish,q⟩
 | ret u=>obtain ⟨v,σ',H',I,r,q⟩:=h;exact ⟨v,σ',H',I.unwish,r,q⟩
theorem PSs.nox {st:List Stmt} {t:TS} (h:PSs X.nox st t):PSs X st t:=fun pins s σ H D I hw=>
 wpAny_mono (h pins s σ H D (I.wish _) hw) (fun _ _ q=>q.unwish) fun _ _ z=>False.elim z
end
section
variable {X:Cx} {st:Stmt} {rest:List Stmt} {t u:TS} {e:Expr} {te:TE} {pos:Pos}
noncomputable def tNext:TS:=fun D σ H=>D.nx σ H
noncomputable def tSeq (t u:TS):TS:=fun D σ H=>t {D with nx:=u D} σ H
theorem pss_nil:PSs X [] tNext:=fun _ _ σ H _ I h=>wpAny_execs_nil ⟨σ,H,I,h⟩
theorem pss_cons (h1:PS X st t) (h2:PSs X rest u):PSs X (st::rest) (tSeq t u):=by
 intro pins s σ H D I h
 refine wpAny_execs_cons (thn (h1 pins s σ H {D with nx:=u D} I h) fun f s1 q=>?_)
 cases f with
 | next=>
  obtain ⟨σ',H',I',q⟩:=q
  exact h2 pins s1 σ' H' D I' q
 | ret v=>exact q
 | brk=>exact q
 | cont=>exact q
theorem pss_one (h1:PS X st t):PSs X [st] t:=by
 intro pins s σ H D I h
 refine wpAny_execs_cons (thn (h1 pins s σ H D I h) fun f s1 q=>?_)
 cases f with
 | next=>exact wpAny_execs_nil q
 | ret v=>exact q
 | brk=>exact q
 | cont=>exact q
theorem Inv.quiet {pins:List (Addr × Obj)} {σ:St} {H:Hp} {s:Shared} (I:Inv X pins σ H s):interactive X.env=false:=by simp [interactive,I.ok.kind]
noncomputable def tDrop (te:TE):TS:=fun D σ H=>te σ H fun _ H1=>D.nx σ H1
theorem ps_expr (he:PE X e te) (hs:swapsWith e none pos.line X.env=pure false:=by rfl):PS X (.Expr e pos) (tDrop te):=by
 intro pins s σ H D I h
 exact wpAny_Expr_any (thn (he pins s σ H _ I h) fun v s1 ⟨x,H1,I1,r1,q1⟩=>⟨σ,H1,I1,q1⟩) I.quiet hs
noncomputable def tRet (te:TE):TS:=fun D σ H=>te σ H D.rt
theorem ps_ret (he:PE X e te):PS X (.Return (some e) pos) (tRet te):=by
 intro pins s σ H D I h
 exact wpAny_Return_some (thn (he pins s σ H _ I h) fun v s1 ⟨x,H1,I1,r1,q1⟩=>⟨x,σ,H1,I1,r1,q1⟩)
noncomputable def tIfS (c:TT) (t u:TS):TS:=fun D σ H=>c σ H fun b H1=>if b=true then t D σ H1 else u D σ H1
theorem ps_if {c:Expr} {a b:List Stmt} {tc:TT} (hc:PT X c tc) (ha:PSs X a t) (hb:PSs X b u):PS X (.If c a b pos) (tIfS tc t u):=by
 intro pins s σ H D I h
 refine wpAny_If (thn (hc pins s σ H _ I h) fun d s1 ⟨H1,I1,q1⟩=>?_)
 cases d with
 | true=>exact ha pins s1 σ H1 D I1 q1
 | false=>exact hb pins s1 σ H1 D I1 q1
noncomputable def tNever:TS:=fun _ _ _=>False
theorem ps_never:PS X st tNever:=fun _ _ _ _ _ _ h=>h.elim
end
noncomputable abbrev TG:=V→St→Hp→(St→Hp→Prop)→Prop
noncomputable abbrev TGs:=List V→St→Hp→(St→Hp→Prop)→Prop
noncomputable def PG (X:Cx) (target:Expr) (t:TG):Prop:=
 ∀(pins:List (Addr × Obj)) (s:Shared) (σ:St) (H:Hp) (v:V) (u:Value) (Q:St→Hp→Prop),Inv X pins σ H s→RelV v u→t v σ H Q→
  wpAny (model X.prog X.w) X.A (assign target X.env u) (fun _ s'=>∃σ' H',Inv X pins σ' H' s'∧Q σ' H') X.xe s
noncomputable def PGs (X:Cx) (ts:List Expr) (t:TGs):Prop:=
 ∀(pins:List (Addr × Obj)) (s:Shared) (σ:St) (H:Hp) (vs:List V) (us:List Value) (Q:St→Hp→Prop),Inv X pins σ H s→Vals vs us→t vs σ H Q→
  wpAny (model X.prog X.w) X.A (assignInOrder ((assignEach ts X.env).map (·.2)) us) (fun _ s'=>∃σ' H',Inv X pins σ' H' s'∧Q σ' H') X.xe s
section
variable {X:Cx} {pos:Pos}
noncomputable def gName (i:Nat):TG:=fun v σ H Q=>Q (σ.set i (some v)) H
theorem pg_name {i:Nat} {x:Str} (hN:X.N.Nodup) (hi:X.N[i]?=some x) (hx:Loc X.env.scope x) (hf:X.fn x=true∨X.env.scope.names.lookup x=some .local:=by first | exact .inl rfl | exact .inr rfl | assumption):PG X (.Name x pos) (gName i):=by
 intro pins s σ H v u Q I r h
 exact wpAny_assign_Name (store_ok I hN hi hx r (fun s' I'=>⟨_,H,I',h⟩) hf)
noncomputable def gNil:TGs:=fun vs σ H Q=>vs=[]∧Q σ H
noncomputable def gCons (t:TG) (u:TGs):TGs:=fun vs σ H Q=>∃v r,vs=v::r∧t v σ H fun σ' H'=>u r σ' H' Q
theorem pgs_nil:PGs X [] gNil:=by
 intro pins s σ H vs us Q I r h
 obtain ⟨e,h⟩:=h
 subst e
 cases r
 exact assignInOrder_nil ⟨σ,H,I,h⟩
theorem pgs_cons {e:Expr} {es:List Expr} {t:TG} {u:TGs} (h1:PG X e t) (h2:PGs X es u)
  (hs:(assignEach (e::es) X.env).map (·.2)=assign e X.env::(assignEach es X.env).map (·.2):=by rfl):PGs X (e::es) (gCons t u):=by
 intro pins s σ H vs us Q I r h
 obtain ⟨v,vr,e1,h⟩:=h
 subst e1
 cases r with
 | cons r rr=>
  rw [hs]
  refine assignInOrder_cons (thn (h1 pins s σ H _ _ _ I r h) fun _ s1 ⟨σ1,H1,I1,q1⟩=>?_)
  exact h2 pins s1 σ1 H1 _ _ Q I1 rr q1
noncomputable def gTup (K:PySem.W.Frag) (n:Nat) (t:TGs):TG:=fun v σ H Q=>∃a xs,v=.ref a∧SqT K H a xs∧xs.length=n∧t xs σ H Q
theorem pg_tup {es:List Expr} {k:Nat} {t:TGs} {n:Nat} (hc:X.calm=true) (h:PGs X es t)
  (hn:(assignEach es X.env).length=n:=by rfl) (hst:(assignEach es X.env).findIdx? (·.1)=none:=by rfl):PG X (.Tuple es k pos) (gTup X.K n t):=by
 intro pins s σ H v u Q I r hw
 obtain ⟨a,xs,e1,hq,hl,hw⟩:=hw
 subst e1
 cases r
 obtain ⟨its,rv,ht,hz⟩:=I.tuple hq
 refine assign_Tuple_tuple (I.ok.hd hc) ht (by simp [hn,←hl,rv.length]) hst fun h' hx=>?_
 have I1:Inv X pins σ H {s with heap:=h'}:=I.kept (t':=s.toks) fun b o e=>hx b o (Nat.ne_of_lt (Heap.lt_size e)) e
 exact h pins _ σ H xs _ Q I1 (by simpa using rv) hw
noncomputable def tAsg (te:TE) (g:TG):TS:=fun D σ H=>te σ H fun x H1=>g x σ H1 D.nx
theorem ps_set {i:Nat} {x:Str} {e:Expr} {te:TE} {pos':Pos} (hN:X.N.Nodup) (hi:X.N[i]?=some x) (hx:Loc X.env.scope x) (he:PE X e te) (hs:swapsWith e (some (.Name x pos')) pos.line X.env=pure false:=by rfl) (hf:X.fn x=true∨X.env.scope.names.lookup x=some .local:=by first | exact .inl rfl | exact .inr rfl | assumption):
  PS X (.Assign [.Name x pos'] e pos) (tAsg te (gName i)):=by
 intro pins s σ H D I h
 refine wpAny_Assign_Name (thn (he pins s σ H _ I h) fun v s1 ⟨y,H1,I1,r1,q1⟩=>?_) hs
 exact store_ok I1 hN hi hx r1 (fun s2 I2=>⟨_,H1,I2,q1⟩) hf
end
section
variable {X:Cx} {pos:Pos}
noncomputable def tWhile (c:TT) (tb:TS):TS:=fun D σ H=>∃W:Nat→St→Hp→Prop,(∃m,W m σ H)∧∀m σ H,W m σ H→
 c σ H fun b H1=>if b=true then ∃N:St→Hp→Prop,(∀σ' H',N σ' H'→∃m',m' < m∧W m' σ' H')∧tb {D with nx:=N,ct:=N,bk:=D.nx} σ H1 else D.nx σ H1
theorem ps_while {c:Expr} {body:List Stmt} {tc:TT} {tb:TS} (hp:PassesOwn (model X.prog X.w) X.A X.env X.xe) (hc:PT X c tc) (hb:PSs X body tb):PS X (.While c body [] pos) (tWhile tc tb):=by
 intro pins s σ H D I h
 obtain ⟨W,⟨m0,w0⟩,turn⟩:=h
 refine wpAny_While (codeAny_whileLoop (fun n s'=>∃σ' H',Inv X pins σ' H' s'∧W n σ' H') ?_ m0 ⟨σ,H,I,w0⟩)
 rintro n s1 ⟨σ1,H1,I1,w1⟩
 refine wpAny_passesOwn hp (thn (hc pins s1 σ1 H1 _ I1 (turn n σ1 H1 w1)) fun b s2 ⟨H2,I2,q2⟩=>?_)
 cases b with
 | true=>
  obtain ⟨N,hN,q2⟩:=q2
  rw [if_pos rfl]
  refine wpAny_passesOwn hp (thn (hb pins s2 σ1 H2 _ I2 q2) fun f s3 q3=>?_)
  cases f with
  | next=>
   obtain ⟨σ3,H3,I3,n3⟩:=q3
   obtain ⟨m',hm,w3⟩:=hN σ3 H3 n3
   exact ⟨m',hm,σ3,H3,I3,w3⟩
  | cont=>
   obtain ⟨σ3,H3,I3,n3⟩:=q3
   obtain ⟨m',hm,w3⟩:=hN σ3 H3 n3
   exact ⟨m',hm,σ3,H3,I3,w3⟩
  | brk=>exact q3
  | ret v=>exact q3
 | false=>
  rw [if_neg Bool.false_ne_true]
  exact wpAny_execs_nil ⟨σ1,H2,I2,q2⟩
end
structure It where
 go:Nat→Hp→Prop
 yld:Nat→Hp→V→Hp→Prop
 stop:Nat→Hp→Prop
noncomputable def FpOk (X:Cx) (pins:List (Addr × Obj)) (H:Hp) (b:Addr):Prop:=
 H b=none∧b≠X.env.locals∧b∉X.fs∧(b∈X.ex∨X.s₀.heap.objs.size≤b)∧(∀x c,X.env.cells.lookup x=some c→c≠b)∧∀p∈X.pn++pins,p.1≠b
theorem Inv.fpOk {X:Cx} {pins:List (Addr × Obj)} {σ:St} {H H':Hp} {s:Shared} {b:Addr} (I:Inv X pins σ H s) (hb:s.heap.objs.size≤b) (hn:H' b=none):FpOk X pins H' b:=by
 refine ⟨hn,Nat.ne_of_gt (Nat.lt_of_lt_of_le I.lt hb),I.nofs hb,.inr (Nat.le_trans I.sz hb),fun x c e z=>?_,fun p hp z=>?_⟩
 ·obtain ⟨v,q⟩:=I.cell x c e
  exact absurd (Nat.lt_of_lt_of_le q.lt (by rw [z];exact hb)) (Nat.lt_irrefl _)
 ·exact absurd (Nat.lt_of_lt_of_le (Heap.lt_size (I.pin p hp).1) (by rw [z];exact hb)) (Nat.lt_irrefl _)
structure Turn (P:Program) (w:World) (K:PySem.W.Frag) (tg:Expr) (J:It) (fp:List Addr) (it:Addr) (tn:Nat→Heap→Prop):Prop where
 mem:it∈fp
 obj:∀i h,tn i h→∀b∈fp,∃o,h.get? b=some o∧∀v,o.data≠.cell v
 keep:∀i h h',tn i h→(∀b∈fp,∀o,h.get? b=some o→h'.get? b=some o)→tn i h'
 item:∀(X:Cx),X.prog=P→X.w=w→X.K=K→X.calm=true→∀(i:Nat) (pins:List (Addr × Obj)) (s:Shared) (σ:St) (H:Hp) (E:Value→Shared→Prop),Inv X pins σ H s→(∀b∈fp,FpOk X pins H b)→tn i s.heap→J.go i H→
  wpAny (model P w) X.A (pyNext (.ref it)) (fun r s1=>∃u,r=some u∧
   wpAny (model P w) X.A (letOwnedTupleGo tg (.ref it) u) (fun _ s2=>∃x H',Inv X pins σ H' s2∧RelV x u∧J.yld i H x H'∧tn (i+1) s2.heap∧∀b∈fp,H' b=none) E s1) E s
 done:∀(X:Cx),X.prog=P→X.w=w→X.K=K→X.calm=true→∀(i:Nat) (pins:List (Addr × Obj)) (s:Shared) (σ:St) (H:Hp) (E:Value→Shared→Prop),Inv X pins σ H s→(∀b∈fp,FpOk X pins H b)→tn i s.heap→J.stop i H→
  wpAny (model P w) X.A (pyNext (.ref it)) (fun r s1=>r=none∧Inv X pins σ H s1) E s
 self:∀(A:Around) (i:Nat) (s:Shared) (Q:Value→Shared→Prop) (E:Value→Shared→Prop),tn i s.heap→Q (.ref it) s→wpAny (model P w) A (pyIter (.ref it)) Q E s
noncomputable abbrev TI:=St→Hp→(It→Hp→Prop)→Prop
noncomputable def PIE (X:Cx) (pins:List (Addr × Obj)) (σ:St) (tg:Expr) (R:It→Hp→Prop) (itv:Value) (s2:Shared):Prop:=
 ∃(it:Addr) (fp:List Addr) (tn:Nat→Heap→Prop) (J:It) (H':Hp),itv=.ref it∧Inv X pins σ H' s2∧Turn X.prog X.w X.K tg J fp it tn∧tn 0 s2.heap∧(∀b∈fp,FpOk X pins H' b)∧R J H'
noncomputable def PI (X:Cx) (tg iter:Expr) (wi:TI):Prop:=
 ∀(pins:List (Addr × Obj)) (s:Shared) (σ:St) (H:Hp) (R:It→Hp→Prop),Inv X pins σ H s→wi σ H R→
  wpAny (model X.prog X.w) X.A (eval iter X.env) (fun v s1=>wpAny (model X.prog X.w) X.A (pyIter v) (PIE X pins σ tg R) X.xe s1) X.xe s
theorem go_of {M:Model} {A:Around} {E:Value→Shared→Prop} {s:Shared} {tg:Expr} {it:Addr} {u:Value} {o:Obj} {n:String} {vs:Array Value} {Q:Unit→Shared→Prop} (ho:s.heap.get? it=some o) (hc:o.cls=.type n) (hd:o.data=.fields vs)
    (hn:["enumerate","zip","dict_itemiterator","dict_reverseitemiterator","odict_iterator","itertools.zip_longest","itertools.pairwise"].contains n=false) (hQ:Q () s):wpAny M A (letOwnedTupleGo tg (.ref it) u) Q E s:=by
  unfold letOwnedTupleGo
  cases tg <;> first
    | exact wpAny_pure hQ
    | (cases u <;> first
        | exact wpAny_pure hQ
        | (refine wpAny_bind (wpAny_load ho ?_)
           rw [hc,hd]
           show wpAny M A (if (["enumerate","zip","dict_itemiterator","dict_reverseitemiterator","odict_iterator","itertools.zip_longest","itertools.pairwise"].contains n && vs[0]?==some (rawInt _))=true then _ else _) Q E s
           rw [if_neg (by intro h;rw [hn,Bool.false_and] at h;cases h)]
           exact wpAny_pure hQ))
noncomputable def Itl (K:PySem.W.Frag) (a:Addr):It:=
 ⟨fun i H=>∃xs x,SqL K H a xs∧xs[i]?=some x,fun i H x H'=>H'=H∧∀xs,SqL K H a xs→xs[i]?=some x,fun i H=>∃xs,SqL K H a xs∧xs.length≤i⟩
noncomputable def Itt (K:PySem.W.Frag) (a:Addr):It:=
 ⟨fun i H=>∃xs x,SqT K H a xs∧xs[i]?=some x,fun i H x H'=>H'=H∧∀xs,SqT K H a xs→xs[i]?=some x,fun i H=>∃xs,SqT K H a xs∧xs.length≤i⟩
noncomputable def Itr (lo:Int) (n:Nat):It:=⟨fun i _=>i < n,fun i H x H'=>H'=H∧x=.int (lo+i),fun i _=>n≤i⟩
theorem turn_list {P:Program} {w:World} {K:PySem.W.Frag} {tg:Expr} (a it:Addr):Turn P w K tg (Itl K a) [it] it (fun i h=>h.IsListIter it a i) where
 mem:=by simp
 obj:=fun i h st b hb=>by
  have e:b=it:=by simpa using hb
  subst e
  obtain ⟨o,e,c,d⟩:=st
  exact ⟨o,e,fun v z=>by rw [d] at z;cases z⟩
 keep:=fun i h h' st k=>st.at fun o e=>k it (by simp) o e
 item:=by
  intro X hP hw hK hc i pins s σ H E I hf st hg
  subst hP hw hK
  obtain ⟨xs,x,hq,hx⟩:=hg
  obtain ⟨its,rv,p,hz⟩:=I.list hq
  obtain ⟨u,hu,ru⟩:=rv.get hx
  obtain ⟨f0,f1,f2,f3,f4,f5⟩:=hf it (by simp)
  refine wpAny_pyNext_list_item st p.isList (x:=u) (by simpa using hu) fun h' st' sb=>?_
  have I1:Inv X pins σ H {s with heap:=h'}:=I.turned (t':=s.toks) (fun b o hb e=>(sb.2 b hb).trans e) f0 f1 f3 f4 f5
  obtain ⟨o,e,c,d⟩:=id st'
  exact ⟨u,rfl,go_of (s:={s with heap:=h'}) e c d (by decide) ⟨x,H,I1,ru,⟨rfl,fun ys hy=>by rw [I.list_inj hy hq];exact hx⟩,st',fun b hb=>(hf b hb).1⟩⟩
 done:=by
  intro X hP hw hK hc i pins s σ H E I hf st hg
  subst hP hw hK
  obtain ⟨xs,hq,hx⟩:=hg
  obtain ⟨its,rv,p,hz⟩:=I.list hq
  obtain ⟨f0,f1,f2,f3,f4,f5⟩:=hf it (by simp)
  have hl:=rv.length
  exact wpAny_pyNext_list_end (I.ok.hd hc) st p.isList (by simp;omega) fun h' eb=>⟨rfl,I.turned (t':=s.toks) (fun b o hb e=>eb b o hb e) f0 f1 f3 f4 f5⟩
 self:=fun _ _ _ _ _ st h=>wpAny_pyIter_listiter st h
theorem turn_tuple {P:Program} {w:World} {K:PySem.W.Frag} {tg:Expr} (a it:Addr):Turn P w K tg (Itt K a) [it] it (fun i h=>h.IsTupleIter it a i) where
 mem:=by simp
 obj:=fun i h st b hb=>by
  have e:b=it:=by simpa using hb
  subst e
  obtain ⟨o,e,c,d⟩:=st
  exact ⟨o,e,fun v z=>by rw [d] at z;cases z⟩
 keep:=fun i h h' st k=>st.at fun o e=>k it (by simp) o e
 item:=by
  intro X hP hw hK hc i pins s σ H E I hf st hg
  subst hP hw hK
  obtain ⟨xs,x,hq,hx⟩:=hg
  obtain ⟨its,rv,p,hz⟩:=I.tuple hq
  obtain ⟨u,hu,ru⟩:=rv.get hx
  obtain ⟨f0,f1,f2,f3,f4,f5⟩:=hf it (by simp)
  refine wpAny_pyNext_tuple_item st (show s.heap.IsTuple a its.toArray from p) (x:=u) (by simpa using hu) fun h' st' sb=>?_
  have I1:Inv X pins σ H {s with heap:=h'}:=I.turned (t':=s.toks) (fun b o hb e=>(sb.2 b hb).trans e) f0 f1 f3 f4 f5
  obtain ⟨o,e,c,d⟩:=id st'
  exact ⟨u,rfl,go_of (s:={s with heap:=h'}) e c d (by decide) ⟨x,H,I1,ru,⟨rfl,fun ys hy=>by rw [I.tuple_inj hy hq];exact hx⟩,st',fun b hb=>(hf b hb).1⟩⟩
 done:=by
  intro X hP hw hK hc i pins s σ H E I hf st hg
  subst hP hw hK
  obtain ⟨xs,hq,hx⟩:=hg
  obtain ⟨its,rv,p,hz⟩:=I.tuple hq
  obtain ⟨f0,f1,f2,f3,f4,f5⟩:=hf it (by simp)
  have hl:=rv.length
  exact wpAny_pyNext_tuple_end (I.ok.hd hc) st (show s.heap.IsTuple a its.toArray from p) (by simp;omega) fun h' eb=>⟨rfl,I.turned (t':=s.toks) (fun b o hb e=>eb b o hb e) f0 f1 f3 f4 f5⟩
 self:=fun _ _ _ _ _ st h=>wpAny_pyIter_tupleiter st h
theorem turn_range {P:Program} {w:World} {K:PySem.W.Frag} {tg:Expr} (it:Addr) (lo:Int) (n:Nat):Turn P w K tg (Itr lo n) [it] it (fun i h=>IsRangeIter h it (lo+(i:Nat) * 1) ((n:Int) - (i:Nat)) 1) where
 mem:=by simp
 obj:=fun i h st b hb=>by
  have e:b=it:=by simpa using hb
  subst e
  exact ⟨_,st,fun v z=>by
   have z':Data.fields _=Data.cell v:=z
   cases z'⟩
 keep:=fun i h h' st k=>k it (by simp) _ st
 item:=by
  intro X hP hw hK hc i pins s σ H E I hf st hg
  subst hP hw hK
  obtain ⟨f0,f1,f2,f3,f4,f5⟩:=hf it (by simp)
  have W:=Walks.range (prog:=X.prog) (w:=X.w) (I.ok.hd hc) it lo 1 n
  refine W.item i s _ _ hg st fun v h' tk hv st' kk=>?_
  obtain ⟨t,rfl⟩:=hv
  have I1:Inv X pins σ H {s with heap:=h',toks:=tk}:=I.turned (fun b o hb e=>kk b o (by simpa using hb) e) f0 f1 f3 f4 f5
  refine ⟨_,rfl,go_of (s:={s with heap:=h',toks:=tk}) (n:="range_iterator") st' rfl rfl (by decide) ⟨.int (lo+i),H,I1,⟨t,?_⟩,⟨rfl,rfl⟩,st',fun b hb=>(hf b hb).1⟩⟩
  rw [Int.mul_one]
 done:=by
  intro X hP hw hK hc i pins s σ H E I hf st hg
  subst hP hw hK
  obtain ⟨f0,f1,f2,f3,f4,f5⟩:=hf it (by simp)
  exact wpAny_pyNext_range_end (I.ok.hd hc) st (by have:n≤i:=hg;omega) fun h' eb=>⟨rfl,I.turned (t':=s.toks) (fun b o hb e=>eb b o hb e) f0 f1 f3 f4 f5⟩
 self:=fun _ _ _ _ _ st h=>wpAny_pyIter_rangeiter st h
open PySem PySem.Spec PyProof.Rows
section
variable {X:Cx} {tg:Expr}
noncomputable def iList (K:PySem.W.Frag) (tl:TE):TI:=fun σ H R=>tl σ H fun x H1=>∃a,x=.ref a∧(∃xs,SqL K H1 a xs)∧R (Itl K a) H1
noncomputable def iTup (K:PySem.W.Frag) (tl:TE):TI:=fun σ H R=>tl σ H fun x H1=>∃a,x=.ref a∧(∃xs,SqT K H1 a xs)∧R (Itt K a) H1
theorem pi_list {l:Expr} {tl:TE} (hl:PE X l tl):PI X tg l (iList X.K tl):=by
 intro pins s σ H R I h
 refine thn (hl pins s σ H _ I h) fun v s1 ⟨x,H1,I1,r1,q1⟩=>?_
 obtain ⟨a,e,⟨xs,hq⟩,q⟩:=q1
 subst e
 cases r1
 obtain ⟨its,rv,p,hz⟩:=I1.list hq
 refine wpAny_pyIter_list p.isList ?_
 refine ⟨s1.heap.objs.size,[s1.heap.objs.size],_,_,H1,rfl,I1.kept (t':=s1.toks) fun b o e=>Heap.get?_push_of_some _ e,turn_list a _,⟨_,Heap.get?_push_size _ rfl,rfl,rfl⟩,fun b hb=>?_,q⟩
 have e:b=s1.heap.objs.size:=by simpa using hb
 subst e
 exact I1.fpOk (Nat.le_refl _) (I1.hok.fresh (Nat.le_refl _))
theorem pi_tup {l:Expr} {tl:TE} (hl:PE X l tl):PI X tg l (iTup X.K tl):=by
 intro pins s σ H R I h
 refine thn (hl pins s σ H _ I h) fun v s1 ⟨x,H1,I1,r1,q1⟩=>?_
 obtain ⟨a,e,⟨xs,hq⟩,q⟩:=q1
 subst e
 cases r1
 obtain ⟨its,rv,p,hz⟩:=I1.tuple hq
 refine wpAny_pyIter_tuple (show s1.heap.IsTuple a its.toArray from p) ?_
 refine ⟨s1.heap.objs.size,[s1.heap.objs.size],_,_,H1,rfl,I1.kept (t':=s1.toks) fun b o e=>Heap.get?_push_of_some _ e,turn_tuple a _,⟨_,Heap.get?_push_size _ rfl,rfl,rfl⟩,fun b hb=>?_,q⟩
 have e:b=s1.heap.objs.size:=by simpa using hb
 subst e
 exact I1.fpOk (Nat.le_refl _) (I1.hok.fresh (Nat.le_refl _))
theorem range_it {pins:List (Addr × Obj)} {σ:St} {H:Hp} {s:Shared} {R:It→Hp→Prop} {E:Value→Shared→Prop} {lo hi:Int} {t u v:Tok} {tk:Nat} (I:Inv X pins σ H s) (h1:-(2 ^ 62)≤lo) (h2:lo < 2 ^ 62) (h3:-(2 ^ 62)≤hi) (h4:hi < 2 ^ 62)
  (q:R (Itr lo (hi - lo).toNat) H):wpAny (model X.prog X.w) X.A (pyIter (.ref s.heap.objs.size)) (PIE X pins σ tg R) E {s with heap:=s.heap.push {cls:=.type "range",data:=.fields #[.int lo t,.int hi u,.int 1 v]},toks:=tk}:=by
 refine wpAny_pyIter_range (IsRange.new ..) (small_one h1 h2 h3 h4) ?_
 have I1:Inv X pins σ H {s with heap:=s.heap.push {cls:=.type "range",data:=.fields #[.int lo t,.int hi u,.int 1 v]},toks:=tk}:=I.kept fun b o e=>Heap.get?_push_of_some _ e
 refine ⟨(s.heap.push {cls:=.type "range",data:=.fields #[.int lo t,.int hi u,.int 1 v]}).objs.size,[(s.heap.push {cls:=.type "range",data:=.fields #[.int lo t,.int hi u,.int 1 v]}).objs.size],_,_,H,rfl,
  I1.kept (t':=tk) fun b o e=>Heap.get?_push_of_some _ e,turn_range _ lo (hi - lo).toNat,?_,fun b hb=>?_,q⟩
 ·have e1:lo+((0:Nat):Int) * 1=lo:=by simp
  have e2:(((hi - lo).toNat:Nat):Int) - ((0:Nat):Int)=Builtin.Range.rangeSize lo hi 1:=by rw [rangeSize_one];split <;> omega
  show IsRangeIter _ _ (lo+((0:Nat):Int) * 1) ((((hi - lo).toNat:Nat):Int) - ((0:Nat):Int)) 1
  rw [e1,e2]
  exact Heap.get?_push_size _ rfl
 ·have e:b=(s.heap.push {cls:=.type "range",data:=.fields #[.int lo t,.int hi u,.int 1 v]}).objs.size:=by simpa using hb
  subst e
  exact I1.fpOk (Nat.le_refl _) (I1.hok.fresh (Nat.le_refl _))
noncomputable def iRng1 (ta:TA):TI:=fun σ H R=>ta σ H fun vs H1=>∃j:Int,vs=[.int j]∧-(2 ^ 62)≤j∧j < 2 ^ 62∧R (Itr 0 j.toNat) H1
theorem pi_range1 {a:Expr} {ta:TA} {p pos:Pos} (hg:Gl X "range") (hm:X.mg "range"=none) (ha:PA X [a] ta) (hs:starEach [a] X.env=[(false,eval a X.env)]:=by rfl):PI X tg (.Call (.Name "range" p) [a] [] pos) (iRng1 ta):=by
 intro pins s σ H R I h
 refine Call_ (ld_blt I hg hm boot_range (PyProof.Rows.callWith_type1 (thn (ha pos pins s σ H _ I h) fun us s1 ⟨vs,H1,I1,r1,q1⟩=>?_) hs rfl))
 obtain ⟨j,e,q1,q2,q⟩:=q1
 subst e
 cases r1 with
 | cons r rr=>
  cases rr
  obtain ⟨t,rfl⟩:=r
  exact call_range_1 (range_it I1 (by omega) (by omega) q1 q2 (by simpa using q))
noncomputable def tFor (wi:TI) (g:TG) (tb:TS):TS:=fun D σ H=>wi σ H fun J H1=>∃W:Nat→Nat→St→Hp→Prop,(∃m,W 0 m σ H1)∧∀i m σ H,W i m σ H→
 (J.stop i H∧D.nx σ H)∨(J.go i H∧∃N:St→Hp→Prop,(∀σ' H',N σ' H'→∃m',m' < m∧W (i+1) m' σ' H')∧∀x H',J.yld i H x H'→g x σ H' fun σ2 H2=>tb {D with nx:=N,ct:=N,bk:=D.nx} σ2 H2)
noncomputable def pinsAt (fp:List Addr) (h:Heap):List (Addr × Obj):=fp.filterMap fun b=>(h.get? b).map fun o=>(b,o)
theorem mem_pinsAt {fp:List Addr} {h:Heap} {b:Addr} {o:Obj} (hb:b∈fp) (e:h.get? b=some o):(b,o)∈pinsAt fp h:=List.mem_filterMap.mpr ⟨b,hb,by rw [e];rfl⟩
theorem of_pinsAt {fp:List Addr} {h:Heap} {p:Addr × Obj} (hp:p∈pinsAt fp h):p.1∈fp∧h.get? p.1=some p.2:=by
 obtain ⟨b,hb,e⟩:=List.mem_filterMap.mp hp
 cases q:h.get? b with
 | none=>rw [q] at e;cases e
 | some o=>
  rw [q] at e
  have e':(b,o)=p:=Option.some.inj e
  subst e'
  exact ⟨hb,q⟩
theorem Inv.pinned {pins:List (Addr × Obj)} {σ:St} {H:Hp} {s:Shared} {fp:List Addr} (I:Inv X pins σ H s) (hf:∀b∈fp,FpOk X pins H b) (ho:∀b∈fp,∃o,s.heap.get? b=some o∧∀v,o.data≠.cell v):Inv X (pins++pinsAt fp s.heap) σ H s:=
 I.pins_of fun p hp=>(List.mem_append.mp hp).elim (fun z=>I.pin p (List.mem_append_right _ z)) fun z=>by
  obtain ⟨hb,e⟩:=of_pinsAt z
  obtain ⟨f0,f1,f2,_⟩:=hf p.1 hb
  obtain ⟨o,e',d⟩:=ho p.1 hb
  rw [e] at e';cases e'
  exact ⟨e,f0,f1,f2,d⟩
theorem Inv.unpinned {pins pl:List (Addr × Obj)} {σ:St} {H:Hp} {s:Shared} (I:Inv X (pins++pl) σ H s):Inv X pins σ H s:=I.pins_of fun p hp=>I.pin p (List.mem_append_right _ (List.mem_append_left _ hp))
theorem ps_for {iter:Expr} {body:List Stmt} {wi:TI} {g:TG} {tb:TS} {pos:Pos} (hp:PassesOwn (model X.prog X.w) X.A X.env X.xe) (hc:X.calm=true) (hi:PI X tg iter wi) (hg:PG X tg g) (hb:PSs X body tb)
  (hs:∀x,foldedSetIterable iter X.env x=pure x:=by intro _;rfl):PS X (.For tg iter body [] pos) (tFor wi g tb):=by
 intro pins s σ H D I h
 refine wpAny_For (thn (hi pins s σ H _ I h) fun v s1 h1=>thn h1 fun itv s2 h2=>?_) hs
 obtain ⟨it,fp,tn,J,H2,e,I2,T,st2,f2,W,⟨m0,w0⟩,turn⟩:=h2
 subst e
 have stat:∀{H':Hp},(∀b∈fp,H' b=none)→∀b∈fp,FpOk X pins H' b:=fun hn b hb=>⟨hn b hb,(f2 b hb).2⟩
 refine codeAny_forLoop_any (fun n s'=>∃i σ' H',Inv X pins σ' H' s'∧tn i s'.heap∧(∀b∈fp,H' b=none)∧W i n σ' H') ?_ m0 ⟨0,σ,H2,I2,st2,fun b hb=>(f2 b hb).1,w0⟩
 rintro n s3 ⟨i,σ3,H3,I3,st3,fr3,w3⟩
 rcases turn i n σ3 H3 w3 with ⟨stop,qn⟩ | ⟨go,N,hN,step⟩
 ·refine wpAny_passesOwn hp (thn (T.done X rfl rfl rfl hc i pins s3 σ3 H3 X.xe I3 (stat fr3) st3 stop) fun r s4 ⟨hr,I4⟩=>?_)
  subst hr
  exact wpAny_execs_nil ⟨σ3,H3,I4,qn⟩
 ·refine wpAny_passesOwn hp (thn (T.item X rfl rfl rfl hc i pins s3 σ3 H3 X.xe I3 (stat fr3) st3 go) fun r s4 ⟨u,hr,h4⟩=>?_)
  subst hr
  refine wpAny_passesOwn hp (thn h4 fun _ s5 ⟨x,H5,I5,r5,y5,st5,fr5⟩=>?_)
  have I5':=I5.pinned (stat fr5) (T.obj _ _ st5)
  refine wpAny_passesOwn hp (thn (hg _ s5 σ3 H5 x u _ I5' r5 (step x H5 y5)) fun _ s6 ⟨σ6,H6,I6,q6⟩=>?_)
  refine wpAny_passesOwn hp (thn (hb _ s6 σ6 H6 _ I6 q6) fun f s7 q7=>?_)
  have again:∀{σ7:St} {H7:Hp},Inv X (pins++pinsAt fp s5.heap) σ7 H7 s7→N σ7 H7→∃m,m < n∧∃i σ' H',Inv X pins σ' H' s7∧tn i s7.heap∧(∀b∈fp,H' b=none)∧W i m σ' H':=fun {σ7 H7} I7 n7=>by
   obtain ⟨m',hm,w7⟩:=hN σ7 H7 n7
   refine ⟨m',hm,i+1,σ7,H7,I7.unpinned,T.keep _ _ _ st5 fun b hb o e=>(I7.pin (b,o) (List.mem_append_right _ (List.mem_append_right _ (mem_pinsAt hb e)))).1,fun b hb=>?_,w7⟩
   obtain ⟨o,e,d⟩:=T.obj _ _ st5 b hb
   exact (I7.pin (b,o) (List.mem_append_right _ (List.mem_append_right _ (mem_pinsAt hb e)))).2.1
  cases f with
  | next=>obtain ⟨σ7,H7,I7,n7⟩:=q7;exact again I7 n7
  | cont=>obtain ⟨σ7,H7,I7,n7⟩:=q7;exact again I7 n7
  | brk=>obtain ⟨σ7,H7,I7,q7⟩:=q7;exact ⟨σ7,H7,I7.unpinned,q7⟩
  | ret v=>obtain ⟨x7,σ7,H7,I7,r7,q7⟩:=q7;exact ⟨x7,σ7,H7,I7.unpinned,r7,q7⟩
end
theorem for_list {K:PySem.W.Frag} {a:Addr} {xs:List V} {g:TG} {tb:TS} {D:Ends} {σ:St} {H:Hp} (Pv:Nat→St→Hp→Prop) (h0:Pv 0 σ H) (hl:∀i σ H,i≤xs.length→Pv i σ H→SqL K H a xs)
  (hs:∀i x σ H,xs[i]?=some x→Pv i σ H→g x σ H fun σ2 H2=>tb {D with nx:=Pv (i+1),ct:=Pv (i+1),bk:=D.nx} σ2 H2) (hd:∀σ H,Pv xs.length σ H→D.nx σ H):
  ∃W:Nat→Nat→St→Hp→Prop,(∃m,W 0 m σ H)∧∀i m σ H,W i m σ H→
   ((Itl K a).stop i H∧D.nx σ H)∨((Itl K a).go i H∧∃N:St→Hp→Prop,(∀σ' H',N σ' H'→∃m',m' < m∧W (i+1) m' σ' H')∧∀x H',(Itl K a).yld i H x H'→g x σ H' fun σ2 H2=>tb {D with nx:=N,ct:=N,bk:=D.nx} σ2 H2):=by
 refine ⟨fun i m σ H=>m=xs.length - i∧i≤xs.length∧Pv i σ H,⟨xs.length,by simp,Nat.zero_le _,h0⟩,?_⟩
 rintro i m σ H ⟨rfl,hi,p⟩
 have q:=hl i σ H hi p
 by_cases hlt:i < xs.length
 ·refine .inr ⟨⟨xs,xs[i],q,by simp [hlt]⟩,Pv (i+1),fun σ' H' p'=>⟨xs.length - (i+1),by omega,rfl,hlt,p'⟩,fun x H' y=>?_⟩
  obtain ⟨e,y⟩:=y
  subst e
  exact hs i x σ _ (y xs q) p
 ·have e:i=xs.length:=by omega
  subst e
  exact .inl ⟨⟨xs,q,Nat.le_refl _⟩,hd σ H p⟩
theorem for_tup {K:PySem.W.Frag} {a:Addr} {xs:List V} {g:TG} {tb:TS} {D:Ends} {σ:St} {H:Hp} (Pv:Nat→St→Hp→Prop) (h0:Pv 0 σ H) (hl:∀i σ H,i≤xs.length→Pv i σ H→SqT K H a xs)
  (hs:∀i x σ H,xs[i]?=some x→Pv i σ H→g x σ H fun σ2 H2=>tb {D with nx:=Pv (i+1),ct:=Pv (i+1),bk:=D.nx} σ2 H2) (hd:∀σ H,Pv xs.length σ H→D.nx σ H):
  ∃W:Nat→Nat→St→Hp→Prop,(∃m,W 0 m σ H)∧∀i m σ H,W i m σ H→
   ((Itt K a).stop i H∧D.nx σ H)∨((Itt K a).go i H∧∃N:St→Hp→Prop,(∀σ' H',N σ' H'→∃m',m' < m∧W (i+1) m' σ' H')∧∀x H',(Itt K a).yld i H x H'→g x σ H' fun σ2 H2=>tb {D with nx:=N,ct:=N,bk:=D.nx} σ2 H2):=by
 refine ⟨fun i m σ H=>m=xs.length - i∧i≤xs.length∧Pv i σ H,⟨xs.length,by simp,Nat.zero_le _,h0⟩,?_⟩
 rintro i m σ H ⟨rfl,hi,p⟩
 have q:=hl i σ H hi p
 by_cases hlt:i < xs.length
 ·refine .inr ⟨⟨xs,xs[i],q,by simp [hlt]⟩,Pv (i+1),fun σ' H' p'=>⟨xs.length - (i+1),by omega,rfl,hlt,p'⟩,fun x H' y=>?_⟩
  obtain ⟨e,y⟩:=y
  subst e
  exact hs i x σ _ (y xs q) p
 ·have e:i=xs.length:=by omega
  subst e
  exact .inl ⟨⟨xs,q,Nat.le_refl _⟩,hd σ H p⟩
theorem for_range {lo:Int} {n:Nat} {g:TG} {tb:TS} {D:Ends} {σ:St} {H:Hp} (Pv:Nat→St→Hp→Prop) (h0:Pv 0 σ H)
  (hs:∀i σ H,i < n→Pv i σ H→g (.int (lo+i)) σ H fun σ2 H2=>tb {D with nx:=Pv (i+1),ct:=Pv (i+1),bk:=D.nx} σ2 H2) (hd:∀σ H,Pv n σ H→D.nx σ H):
  ∃W:Nat→Nat→St→Hp→Prop,(∃m,W 0 m σ H)∧∀i m σ H,W i m σ H→
   ((Itr lo n).stop i H∧D.nx σ H)∨((Itr lo n).go i H∧∃N:St→Hp→Prop,(∀σ' H',N σ' H'→∃m',m' < m∧W (i+1) m' σ' H')∧∀x H',(Itr lo n).yld i H x H'→g x σ H' fun σ2 H2=>tb {D with nx:=N,ct:=N,bk:=D.nx} σ2 H2):=by
 refine ⟨fun i m σ H=>m=n - i∧i≤n∧Pv i σ H,⟨n,by simp,Nat.zero_le _,h0⟩,?_⟩
 rintro i m σ H ⟨rfl,hi,p⟩
 by_cases hlt:i < n
 ·refine .inr ⟨hlt,Pv (i+1),fun σ' H' p'=>⟨n - (i+1),by omega,rfl,hlt,p'⟩,fun x H' y=>?_⟩
  obtain ⟨e,y⟩:=y
  subst e y
  exact hs i σ _ hlt p
 ·have e:i=n:=by omega
  subst e
  exact .inl ⟨Nat.le_refl _,hd σ H p⟩
open PySem PySem.Spec PyProof.Rows
noncomputable abbrev R2:=V→V→Hp→VK→Prop
noncomputable def OpR (X:Cx) (f:Value→Value→Sem Value) (r:R2):Prop:=
 ∀(pins:List (Addr × Obj)) (s:Shared) (σ:St) (H:Hp) (x y:V) (v u:Value) (Q:VK),Inv X pins σ H s→RelV x v→RelV y u→r x y H Q→
  wpAny (model X.prog X.w) X.A (f v u) (EP X pins σ Q) X.xe s
noncomputable def UnR (X:Cx) (f:Value→Sem Value) (r:V→Hp→VK→Prop):Prop:=
 ∀(pins:List (Addr × Obj)) (s:Shared) (σ:St) (H:Hp) (x:V) (v:Value) (Q:VK),Inv X pins σ H s→RelV x v→r x H Q→
  wpAny (model X.prog X.w) X.A (f v) (EP X pins σ Q) X.xe s
noncomputable def CallR (X:Cx) (f:Value) (r:List V→Hp→VK→Prop):Prop:=
 ∀(pins:List (Addr × Obj)) (s:Shared) (σ:St) (H:Hp) (xs:List V) (us:List Value) (Q:VK),Inv X pins σ H s→Vals xs us→r xs H Q→
  wpAny (model X.prog X.w) X.A (call f us) (EP X pins σ Q) X.xe s
noncomputable def tOp (r:R2) (ta tb:TE):TE:=fun σ H Q=>ta σ H fun x H1=>tb σ H1 fun y H2=>r x y H2 Q
noncomputable def tUn (r:V→Hp→VK→Prop) (ta:TE):TE:=fun σ H Q=>ta σ H fun x H1=>r x H1 Q
noncomputable def rI (C:Int→Int→Prop) (g:Int→Int→V):R2:=fun x y H Q=>∃i j,x=.int i∧y=.int j∧C i j∧Q (g i j) H
noncomputable def rI0 (g:Int→Int→V):R2:=fun x y H Q=>∃i j,x=.int i∧y=.int j∧Q (g i j) H
noncomputable def rU (g:Int→V):V→Hp→VK→Prop:=fun x H Q=>∃i,x=.int i∧Q (g i) H
section
variable {X:Cx} {a b c:Expr} {ta tb tc:TE} {pos:Pos}
theorem binT (ha:PE X a ta) (hb:PE X b tb) {pins:List (Addr × Obj)} {s:Shared} {σ:St} {H:Hp} {R:V→V→Hp→Prop} (I:Inv X pins σ H s)
  (h:ta σ H fun x H1=>tb σ H1 fun y H2=>R x y H2) {Q:Value→Shared→Prop} {f:Value→Value→Sem Value}
  (hf:∀v u s2 x y H2,Inv X pins σ H2 s2→RelV x v→RelV y u→R x y H2→wpAny (model X.prog X.w) X.A (f v u) Q X.xe s2):
  wpAny (model X.prog X.w) X.A (eval a X.env) (fun v s₁=>wpAny (model X.prog X.w) X.A (eval b X.env) (fun u s₂=>wpAny (model X.prog X.w) X.A (f v u) Q X.xe s₂) X.xe s₁) X.xe s:=by
 refine thn (ha pins s σ H _ I h) fun v s1 ⟨x,H1,I1,r1,q1⟩=>?_
 refine thn (hb pins s1 σ H1 _ I1 q1) fun u s2 ⟨y,H2,I2,r2,q2⟩=>?_
 exact hf v u s2 x y H2 I2 r1 r2 q2
theorem pe_op {op:Operator} {r:R2} (ho:OpR X (binaryOp op) r) (ha:PE X a ta) (hb:PE X b tb):PE X (.BinOp a op b pos) (tOp r ta tb):=by
 intro pins s σ H Q I h
 exact wpAny_BinOp (binT ha hb I h fun v u s2 x y H2 I2 rx ry q=>ho pins s2 σ H2 x y v u Q I2 rx ry q)
theorem pe_un {op:UnaryOp} {r:V→Hp→VK→Prop} (ho:UnR X (unaryOp op) r) (ha:PE X a ta):PE X (.UnaryOp op a pos) (tUn r ta):=by
 intro pins s σ H Q I h
 exact UnaryOp_ (thn (ha pins s σ H _ I h) fun v s1 ⟨x,H1,I1,r1,q1⟩=>ho pins s1 σ H1 x v Q I1 r1 q1)
theorem opI {f:Value→Value→Sem Value} {C:Int→Int→Prop} {g:Int→Int→Int}
  (rule:∀(i j:Int) (t u:Tok) (s:Shared) (Q:Value→Shared→Prop) (E:Value→Shared→Prop),C i j→Q (.int (g i j) s.toks) {s with toks:=s.toks+1}→wpAny (model X.prog X.w) X.A (f (.int i t) (.int j u)) Q E s):
  OpR X f (rI C fun i j=>.int (g i j)):=by
 intro pins s σ H x y v u Q I rx ry h
 obtain ⟨i,j,rfl,rfl,hc,q⟩:=h
 obtain ⟨t,rfl⟩:=rx
 obtain ⟨t',rfl⟩:=ry
 exact rule i j t t' s _ _ hc ⟨.int (g i j),H,I.tok _,⟨_,rfl⟩,q⟩
theorem opI0 {f:Value→Value→Sem Value} {g:Int→Int→Int}
  (rule:∀(i j:Int) (t u:Tok) (s:Shared) (Q:Value→Shared→Prop) (E:Value→Shared→Prop),Q (.int (g i j) s.toks) {s with toks:=s.toks+1}→wpAny (model X.prog X.w) X.A (f (.int i t) (.int j u)) Q E s):
  OpR X f (rI0 fun i j=>.int (g i j)):=by
 intro pins s σ H x y v u Q I rx ry h
 obtain ⟨i,j,rfl,rfl,q⟩:=h
 obtain ⟨t,rfl⟩:=rx
 obtain ⟨t',rfl⟩:=ry
 exact rule i j t t' s _ _ ⟨.int (g i j),H,I.tok _,⟨_,rfl⟩,q⟩
theorem opB0 {f:Value→Value→Sem Value} {g:Int→Int→Bool}
  (rule:∀(i j:Int) (t u:Tok) (s:Shared) (Q:Value→Shared→Prop) (E:Value→Shared→Prop),Q (.bool (g i j)) s→wpAny (model X.prog X.w) X.A (f (.int i t) (.int j u)) Q E s):
  OpR X f (rI0 fun i j=>.bl (g i j)):=by
 intro pins s σ H x y v u Q I rx ry h
 obtain ⟨i,j,rfl,rfl,q⟩:=h
 obtain ⟨t,rfl⟩:=rx
 obtain ⟨t',rfl⟩:=ry
 exact rule i j t t' s _ _ ⟨.bl (g i j),H,I,rfl,q⟩
noncomputable def CDiv (i j:Int):Prop:=0 < j∧j < 1073741824
noncomputable def CPow (i j:Int):Prop:=0≤j∧j≤1000000∧i.natAbs < 2 ^ 64
noncomputable def CMul (i j:Int):Prop:=(-(2 ^ 64) < i∧i < 2 ^ 64)∨(-(2 ^ 64) < j∧j < 2 ^ 64)
theorem CMul.ok {i j:Int} (h:CMul i j):IntMulOk i j:=by
 rcases h with ⟨h1,h2⟩ | ⟨h1,h2⟩
 ·exact .of_left (intBits_le_64 h1 h2)
 ·exact .of_right (intBits_le_64 h1 h2)
theorem op_add:OpR X (binaryOp .Add) (rI0 fun i j=>.int (i+j)):=opI0 fun _ _ _ _ _ _ _ q=>add_int q
theorem op_sub:OpR X (binaryOp .Sub) (rI0 fun i j=>.int (i - j)):=opI0 fun _ _ _ _ _ _ _ q=>sub_int q
theorem op_mul:OpR X (binaryOp .Mult) (rI CMul fun i j=>.int (i * j)):=opI fun _ _ _ _ _ _ _ hc q=>mul_int q hc.ok
theorem op_fdiv:OpR X (binaryOp .FloorDiv) (rI CDiv fun i j=>.int (i / j)):=opI fun i j _ _ _ _ _ hc q=>by
 have h1:(0:Int) < j:=hc.1
 have h2:j < 1073741824:=hc.2
 exact floordiv_int (by omega) (by rw [Int.fdiv_eq_ediv_of_nonneg i (by omega)];exact q) (.inl (PyProof.noPylong_small (by omega)))
theorem op_mod:OpR X (binaryOp .Mod) (rI (fun _ j=>0 < j) fun i j=>.int (i % j)):=opI fun i j _ _ _ _ _ hc q=>by
 have h1:(0:Int) < j:=hc
 exact mod_int' (by omega) (by rw [Int.fmod_eq_emod_of_nonneg i (by omega)];exact q)
theorem op_pow:OpR X (binaryOp .Pow) (rI CPow fun i j=>.int (i ^ j.toNat)):=opI fun _ _ _ _ _ _ _ hc q=>pow_int_small hc.1 hc.2.1 hc.2.2 q
theorem unI {f:Value→Sem Value} {g:Int→Int}
  (rule:∀(i:Int) (t:Tok) (s:Shared) (Q:Value→Shared→Prop) (E:Value→Shared→Prop),Q (.int (g i) s.toks) {s with toks:=s.toks+1}→wpAny (model X.prog X.w) X.A (f (.int i t)) Q E s):
  UnR X f (rU fun i=>.int (g i)):=by
 intro pins s σ H x v Q I rx h
 obtain ⟨i,rfl,q⟩:=h
 obtain ⟨t,rfl⟩:=rx
 exact rule i t s _ _ ⟨.int (g i),H,I.tok _,⟨_,rfl⟩,q⟩
theorem un_neg:UnR X (unaryOp .USub) (rU fun i=>.int (-i)):=unI fun _ _ _ _ _ q=>neg_int q
end
noncomputable def scal:V→V→Bool
 | .non,.non=>true | .non,.int _=>true | .int _,.non=>true | .non,.bl _=>true | .bl _,.non=>true | .non,.str _=>true | .str _,.non=>true
 | .int _,.int _=>true | .bl _,.bl _=>true | .str _,.str _=>true | .byt _,.byt _=>true
 | .int _,.str _=>true | .str _,.int _=>true | .bl _,.str _=>true | .str _,.bl _=>true
 | _,_=>false
noncomputable def rEq:R2:=fun x y H Q=>scal x y=true∧Q (.bl (decide (x=y))) H
noncomputable def rNe:R2:=fun x y H Q=>scal x y=true∧Q (.bl (!decide (x=y))) H
theorem dec_int {i j:Int}:decide (V.int i=V.int j)=(i==j):=by
 rw [Bool.eq_iff_iff]
 simp
theorem dec_bl {i j:Bool}:decide (V.bl i=V.bl j)=(i==j):=by
 rw [Bool.eq_iff_iff]
 simp
theorem dec_str {i j:Str}:decide (V.str i=V.str j)=(i==j):=by
 rw [Bool.eq_iff_iff]
 simp
theorem dec_byt {i j:Array UInt8}:decide (V.byt i=V.byt j)=(i.toList==j.toList):=by
 rw [Bool.eq_iff_iff]
 cases i
 cases j
 simp
section
variable {X:Cx} {a b c:Expr} {ta tb tc:TE} {pos:Pos}
theorem fin_bl {pins:List (Addr × Obj)} {σ:St} {H:Hp} {s:Shared} {Q:VK} {k k':Bool} (I:Inv X pins σ H s) (q:Q (.bl k) H) (e:k=k'):EP X pins σ Q (.bool k') s:=by
 subst e
 exact ⟨.bl k,H,I,rfl,q⟩
theorem op_eq:OpR X (compareOp .Eq) rEq:=by
 intro pins s σ H x y v u Q I rx ry h
 obtain ⟨hs,q⟩:=h
 cases x with
 | non=>
  cases rx
  cases y with
  | non=>cases ry;exact PySem.EqNone.eq_none_none (fin_bl I q (by simp))
  | bl j=>cases ry;exact PySem.EqNone.eq_none_bool (fin_bl I q (by simp))
  | int j=>obtain ⟨t',rfl⟩:=ry;exact PySem.EqNone.eq_none_int (fin_bl I q (by simp))
  | str j=>obtain ⟨t',rfl⟩:=ry;exact PySem.EqNone.eq_none_str (fin_bl I q (by simp))
  | _=>exact absurd (show false=true from hs) Bool.false_ne_true
 | bl i=>
  cases rx
  cases y with
  | non=>cases ry;exact PySem.EqNone.eq_bool_none (fin_bl I q (by simp))
  | bl j=>cases ry;exact eq_bool (fin_bl I q dec_bl)
  | str j=>obtain ⟨t',rfl⟩:=ry;exact PySem.EqMixed.eq_bool_str (fin_bl I q (by simp))
  | _=>exact absurd (show false=true from hs) Bool.false_ne_true
 | int i=>
  obtain ⟨t,rfl⟩:=rx
  cases y with
  | non=>cases ry;exact PySem.EqNone.eq_int_none (fin_bl I q (by simp))
  | int j=>obtain ⟨t',rfl⟩:=ry;exact eq_int (fin_bl I q dec_int)
  | str j=>obtain ⟨t',rfl⟩:=ry;exact PySem.EqMixed.eq_int_str (fin_bl I q (by simp))
  | _=>exact absurd (show false=true from hs) Bool.false_ne_true
 | str i=>
  obtain ⟨t,rfl⟩:=rx
  cases y with
  | non=>cases ry;exact PySem.EqNone.eq_str_none (fin_bl I q (by simp))
  | bl j=>cases ry;exact PySem.EqMixed.eq_str_bool (fin_bl I q (by simp))
  | int j=>obtain ⟨t',rfl⟩:=ry;exact PySem.EqMixed.eq_str_int (fin_bl I q (by simp))
  | str j=>obtain ⟨t',rfl⟩:=ry;exact eq_str (fin_bl I q dec_str)
  | _=>exact absurd (show false=true from hs) Bool.false_ne_true
 | byt i=>
  obtain ⟨t,rfl⟩:=rx
  cases y with
  | byt j=>obtain ⟨t',rfl⟩:=ry;exact PySem.W.eq_bytes (fin_bl I q dec_byt)
  | _=>exact absurd (show false=true from hs) Bool.false_ne_true
 | _=>cases y <;> exact absurd (show false=true from hs) Bool.false_ne_true
theorem op_ne:OpR X (compareOp .NotEq) rNe:=by
 intro pins s σ H x y v u Q I rx ry h
 obtain ⟨hs,q⟩:=h
 cases x with
 | non=>
  cases rx
  cases y with
  | non=>cases ry;exact PySem.EqNone.ne_none_none (fin_bl I q (by simp))
  | bl j=>cases ry;exact PySem.EqNone.ne_none_bool (fin_bl I q (by simp))
  | int j=>obtain ⟨t',rfl⟩:=ry;exact PySem.EqNone.ne_none_int (fin_bl I q (by simp))
  | str j=>obtain ⟨t',rfl⟩:=ry;exact PySem.EqNone.ne_none_str (fin_bl I q (by simp))
  | _=>exact absurd (show false=true from hs) Bool.false_ne_true
 | bl i=>
  cases rx
  cases y with
  | non=>cases ry;exact PySem.EqNone.ne_bool_none (fin_bl I q (by simp))
  | bl j=>cases ry;exact ne_bool (fin_bl I q (congrArg not dec_bl))
  | str j=>obtain ⟨t',rfl⟩:=ry;exact PySem.EqMixed.ne_bool_str (fin_bl I q (by simp))
  | _=>exact absurd (show false=true from hs) Bool.false_ne_true
 | int i=>
  obtain ⟨t,rfl⟩:=rx
  cases y with
  | non=>cases ry;exact PySem.EqNone.ne_int_none (fin_bl I q (by simp))
  | int j=>obtain ⟨t',rfl⟩:=ry;exact ne_int (fin_bl I q (congrArg not dec_int))
  | str j=>obtain ⟨t',rfl⟩:=ry;exact PySem.EqMixed.ne_int_str (fin_bl I q (by simp))
  | _=>exact absurd (show false=true from hs) Bool.false_ne_true
 | str i=>
  obtain ⟨t,rfl⟩:=rx
  cases y with
  | non=>cases ry;exact PySem.EqNone.ne_str_none (fin_bl I q (by simp))
  | bl j=>cases ry;exact PySem.EqMixed.ne_str_bool (fin_bl I q (by simp))
  | int j=>obtain ⟨t',rfl⟩:=ry;exact PySem.EqMixed.ne_str_int (fin_bl I q (by simp))
  | str j=>obtain ⟨t',rfl⟩:=ry;exact ne_str (fin_bl I q (congrArg not dec_str))
  | _=>exact absurd (show false=true from hs) Bool.false_ne_true
 | byt i=>
  obtain ⟨t,rfl⟩:=rx
  cases y with
  | byt j=>obtain ⟨t',rfl⟩:=ry;exact PySem.W.ne_bytes (fin_bl I q (congrArg not dec_byt))
  | _=>exact absurd (show false=true from hs) Bool.false_ne_true
 | _=>cases y <;> exact absurd (show false=true from hs) Bool.false_ne_true
theorem op_lt:OpR X (compareOp .Lt) (rI0 fun i j=>.bl (decide (i < j))):=opB0 fun _ _ _ _ _ _ _ q=>lt_int q
theorem op_le:OpR X (compareOp .LtE) (rI0 fun i j=>.bl (decide (i≤j))):=opB0 fun _ _ _ _ _ _ _ q=>le_int q
theorem op_gt:OpR X (compareOp .Gt) (rI0 fun i j=>.bl (decide (j < i))):=opB0 fun _ _ _ _ _ _ _ q=>gt_int q
theorem op_isN:OpR X (compareOp .Is) (fun x y H Q=>y=.non∧Q (.bl (decide (x=.non))) H):=by
 intro pins s σ H x y v u Q I rx ry h
 obtain ⟨rfl,q⟩:=h
 cases ry
 refine is_none_gen (fin_bl I q ?_)
 cases x <;> first
  | (cases rx;rfl)
  | (obtain ⟨t,rfl⟩:=rx;rfl)
theorem op_notN:OpR X (compareOp .IsNot) (fun x y H Q=>y=.non∧Q (.bl (!decide (x=.non))) H):=by
 intro pins s σ H x y v u Q I rx ry h
 obtain ⟨rfl,q⟩:=h
 cases ry
 refine isnot_none_gen (fin_bl I q ?_)
 cases x <;> first
  | (cases rx;rfl)
  | (obtain ⟨t,rfl⟩:=rx;rfl)
theorem nomark (b:Expr) {op:CmpOp} (h:op≠.In:=by decide) (h2:op≠.NotIn:=by decide):behindInMarks op b=false:=by
 have e1:(op==CmpOp.In)=false:=by cases op <;> first | rfl | exact absurd rfl h
 have e2:(op==CmpOp.NotIn)=false:=by cases op <;> first | rfl | exact absurd rfl h2
 cases b <;> simp [behindInMarks,e1,e2]
theorem pe_cmpR {op:CmpOp} {r:R2} (ho:OpR X (compareOp op) r) (ha:PE X a ta) (hb:PE X b tb) (hm:behindInMarks op b=false):PE X (.Compare a [op] [b] pos) (tOp r ta tb):=by
 intro pins s σ H Q I h
 exact wpAny_Compare1 (binT ha hb I h fun v u s2 x y H2 I2 rx ry q=>ho pins s2 σ H2 x y v u Q I2 rx ry q) hm
noncomputable def tTest (t:TE):TT:=fun σ H Q=>t σ H fun x H'=>∃k,x=.bl k∧Q k H'
theorem pt_cmpR {op:CmpOp} {r:R2} (ho:OpR X (compareOp op) r) (ha:PE X a ta) (hb:PE X b tb) (hm:behindInMarks op b=false):PT X (.Compare a [op] [b] pos) (tTest (tOp r ta tb)):=by
 intro pins s σ H Q I h
 refine wpAny_isTrue_Compare1 (thn (ha pins s σ H _ I h) fun v s1 ⟨x,H1,I1,r1,q1⟩=>thn (hb pins s1 σ H1 _ I1 q1) fun u s2 ⟨y,H2,I2,r2,q2⟩=>
  thn (ho pins s2 σ H2 x y v u _ I2 r1 r2 q2) fun c s3 ⟨z,H3,I3,r3,k,e,q3⟩=>?_) hm
 subst e
 cases r3
 exact wpAny_truthy_bool ⟨H3,I3,q3⟩
noncomputable def tChain (r r':R2) (ta tb tc:TE):TE:=fun σ H Q=>ta σ H fun x H1=>tb σ H1 fun y H2=>r x y H2 fun z H3=>∃k,z=.bl k∧
 (if k=true then tc σ H3 fun w' H4=>r' y w' H4 Q else Q (.bl false) H3)
theorem pe_chain {op op':CmpOp} {r r':R2} (ho:OpR X (compareOp op) r) (ho':OpR X (compareOp op') r') (ha:PE X a ta) (hb:PE X b tb) (hc:PE X c tc)
  (hm:lastMarks [op,op'] [b,c]=false:=by with_unfolding_all rfl):PE X (.Compare a [op,op'] [b,c] pos) (tChain r r' ta tb tc):=by
 intro pins s σ H Q I h
 refine Compare_chain (thn (ha pins s σ H _ I h) fun v s1 ⟨x,H1,I1,r1,q1⟩=>chain_link (thn (hb pins s1 σ H1 _ I1 q1) fun u s2 ⟨y,H2,I2,r2,q2⟩=>
  thn (ho pins s2 σ H2 x y v u _ I2 r1 r2 q2) fun d s3 ⟨z,H3,I3,r3,k,e,q3⟩=>?_)) hm
 subst e
 cases r3
 refine wpAny_truthy_bool ?_
 cases k with
 | false=>exact ite_ff ⟨.bl false,H3,I3,rfl,q3⟩
 | true=>exact ite_tt (chain_last (thn (hc pins s3 σ H3 _ I3 q3) fun w' s4 ⟨z',H4,I4,r4,q4⟩=>ho' pins s4 σ H4 y z' u w' Q I4 r2 r4 q4))
theorem pt_chain {op op':CmpOp} {r r':R2} (ho:OpR X (compareOp op) r) (ho':OpR X (compareOp op') r') (ha:PE X a ta) (hb:PE X b tb) (hc:PE X c tc)
  (hm:lastMarks [op,op'] [b,c]=false:=by with_unfolding_all rfl):PT X (.Compare a [op,op'] [b,c] pos) (tTest (tChain r r' ta tb tc)):=by
 intro pins s σ H Q I h
 refine isTrue_chain (thn (ha pins s σ H _ I h) fun v s1 ⟨x,H1,I1,r1,q1⟩=>test_link (thn (hb pins s1 σ H1 _ I1 q1) fun u s2 ⟨y,H2,I2,r2,q2⟩=>
  thn (ho pins s2 σ H2 x y v u _ I2 r1 r2 q2) fun d s3 ⟨z,H3,I3,r3,k,e,q3⟩=>?_)) hm
 subst e
 cases r3
 refine wpAny_truthy_bool ?_
 cases k with
 | false=>
  obtain ⟨k',e',q'⟩:=q3
  cases e'
  exact ite_ff ⟨H3,I3,q'⟩
 | true=>
  refine ite_tt (test_last (thn (hc pins s3 σ H3 _ I3 q3) fun w' s4 ⟨z',H4,I4,r4,q4⟩=>thn (ho' pins s4 σ H4 y z' u w' _ I4 r2 r4 q4) fun d' s5 ⟨z2,H5,I5,r5,k2,e2,q5⟩=>?_))
  subst e2
  cases r5
  exact wpAny_truthy_bool ⟨H5,I5,q5⟩
theorem line63:(sizeLine:Nat) < 2 ^ 63:=by rw [sizeLine_eq];decide
theorem op_add_str:OpR X (binaryOp .Add) (fun x y H Q=>∃i j,x=.str i∧y=.str j∧i.length+j.length≤sizeLine∧Q (.str (i++j)) H):=by
 intro pins s σ H x y v u Q I rx ry h
 obtain ⟨i,j,rfl,rfl,hz,q⟩:=h
 obtain ⟨t,rfl⟩:=rx
 obtain ⟨t',rfl⟩:=ry
 exact add_str (fun t' tk=>⟨.str (i++j),H,I.tok _,⟨_,rfl⟩,q⟩) hz
theorem vals1 {x:V} {us:List Value} (r:Vals [x] us):∃u,us=[u]∧RelV x u:=by
 cases r with
 | cons r1 r2=>cases r2;exact ⟨_,rfl,r1⟩
theorem vals2 {x y:V} {us:List Value} (r:Vals [x,y] us):∃u w',us=[u,w']∧RelV x u∧RelV y w':=by
 cases r with
 | cons r1 r2=>
  cases r2 with
  | cons r3 r4=>cases r4;exact ⟨_,_,rfl,r1,r3⟩
theorem call_int1:CallR X (.type "int") (fun xs H Q=>(∃i,xs=[.int i]∧Q (.int i) H)∨∃k,xs=[.bl k]∧Q (.int (if k then 1 else 0)) H):=by
 intro pins s σ H xs us Q I r h
 rcases h with ⟨i,rfl,q⟩ | ⟨k,rfl,q⟩
 ·obtain ⟨u,rfl,t,rfl⟩:=vals1 r
  exact call_int_int ⟨.int i,H,I,⟨_,rfl⟩,q⟩
 ·obtain ⟨u,rfl,r1⟩:=vals1 r
  cases r1
  exact call_int_bool ⟨.int (if k then 1 else 0),H,I.tok _,⟨_,rfl⟩,q⟩
end
open PySem PySem.Spec PyProof.Rows
structure ObjM (h:Heap) (x dx C:Addr) (mA:Str→Option Value):Prop where
 obj:h.get? x=some (PySem.W.instObj C dx)
 ns:h.Ns1 dx mA
 ne:dx≠x
theorem lookIn_ns {h:Heap} {dx:Addr} {mA:Str→Option Value} (n:h.Ns1 dx mA):∃od,h.get? dx=some od∧∀name,PySem.W.lookIn name od=some (mA name):=by
 obtain ⟨o,es,ep,ho,hd,hk,_,hm⟩:=n
 refine ⟨o,ho,fun name=>?_⟩
 have e:=hm name
 unfold nsFind findBy at e
 rw [←Array.find?_toList] at e
 unfold PySem.W.lookIn
 rw [hd]
 dsimp only
 split
 ·rename_i y q
  rw [q] at e
  exact congrArg some e
 ·rename_i q
  rw [q] at e
  have a:es.toList.any (·.refKey)=false:=by
   rw [List.any_eq_false]
   intro y hy
   obtain ⟨z,t,hkey⟩:=hk y (Array.mem_toList_iff.mp hy)
   simp [DictEntry.refKey,hkey]
  have a':¬es.toList.any (·.refKey)=true:=by rw [a];exact Bool.false_ne_true
  rw [if_neg a']
  exact congrArg some e
theorem ObjM.look {h:Heap} {x dx C:Addr} {mA:Str→Option Value} (I:ObjM h x dx C mA):∃od,PySem.W.InstAt h x (PySem.W.instObj C dx) C (some od)∧∀name,PySem.W.lookIn name od=some (mA name):=
 let ⟨od,ho,hl⟩:=lookIn_ns I.ns
 ⟨od,⟨I.obj,rfl,rfl,ho⟩,hl⟩
section
variable {prog:Program} {w:World} {A:Around} {E:Value→Shared→Prop} {s:Shared} {K:PySem.W.Frag} {x dx C f:Addr} {mA:Str→Option Value} {name:Str} {v:Value}
theorem get_map {expr:Bool} {Q:Value→Shared→Prop} (X:K.In s.heap) (I:ObjM s.heap x dx C mA) (hg:PySem.W.plainGet K C name=true) (hh:PySem.W.hasDictIn K C=true)
  (ha:PySem.W.findIn K (.ref C) name=some none) (hv:mA name=some v) (hv':PySem.W.handedIn v=true) (h:Q v {s with toks:=s.toks+1}):
  wpAny (model prog w) A (getAttr (.ref x) name expr) Q E s:=by
 obtain ⟨od,J,hl⟩:=I.look
 exact PySem.W.get_value X J (PySem.W.plainGet_of hg).1 (PySem.W.findObj_own hh ha rfl (by rw [hl,hv])) hv' h
theorem get_meth {pl:Sem Bool} {Q:Value × List Value→Shared→Prop} (X:K.In s.heap) (I:ObjM s.heap x dx C mA) (hg:PySem.W.plainGet K C name=true)
  (hf:PySem.W.findIn K (.ref C) name=some (some (.ref f))) (ht:PySem.W.isFn K (.ref f)=true) (hv:mA name=none) (h:Q (.ref f,[.ref x]) s):
  wpAny (model prog w) A (getMethod (.ref x) name pl) Q E s:=by
 obtain ⟨od,J,hl⟩:=I.look
 exact PySem.W.method_fn X J (PySem.W.plainGet_of hg).1 (PySem.W.plainGet_of hg).2 hf (beq_iff_eq.mp ht) (by show (PySem.W.lookIn name od).map (·.isSome)=some false;rw [hl,hv];rfl) h
theorem set_map {ns:List Str} {Q:Unit→Shared→Prop} (X:K.In s.heap) (I:ObjM s.heap x dx C mA)
  (hs:PySem.W.findIn K (.ref C) "__setattr__"=some (some (.builtin "object.__setattr__"))) (hp:PySem.W.plainOver K C=true) (ht:PySem.W.takerIn K C name=some none) (hh:PySem.W.hasDictIn K C=true)
  (hw:PySem.Within mA ns) (hsz:ns.length≤sizeLine)
  (h:∀h',ObjM h' x dx C (fun y=>if y=name then some v else mA y)→Heap.SameBut dx s.heap h'→Q () {s with heap:=h',toks:=s.toks+2}):
  wpAny (model prog w) A (setAttr (.ref x) name v) Q E s:=by
 obtain ⟨od,J,hl⟩:=I.look
 refine PySem.W.set_plain X J hs (PySem.W.osa_open (s:={s with toks:=s.toks+1}) (r:=none) X J hp ht fun b=>?_)
 obtain ⟨cd,hc,hd'⟩:=PySem.W.any_some hh
 have hx:s.heap.get? x=some ⟨.ref C,some dx,.plain,#[]⟩:=I.obj
 refine wpAny_bind (wpAny_pure (wpAny_bind (wpAny_bind (wpAny_loadPart hx (wpAny_bind (PySem.W.Looks.here (s:={s with toks:=s.toks+1}) (PySem.W.looks_clsIn X hc) ?_))))))
 rw [hd']
 refine wpAny_pure (a:=some dx) (wpAny_bind (wpAny_pure (wpAny_bind ?_)))
 refine wpAny_nsSet1 (s:={s with toks:=s.toks+1}) I.ns fun h' hn2 hs2=>?_
 obtain ⟨oD,esD,epD,hoD,hdD,hcD⟩:=hn2.count (PySem.Within.cons name v hw)
 refine wpAny_bind (wpAny_lookBehind hoD (by rw [hdD];exact pastItsLine_dict (Nat.le_trans hcD (by rw [List.length_cons];omega))) ?_)
 exact wpAny_pure (h _ ⟨(hs2.2 _ (Ne.symm I.ne)).trans I.obj,hn2,I.ne⟩ hs2)
theorem make_map {R:Result→Shared→Prop} {vs:List Value} {kw:List (Str × Value)} (X:K.In s.heap) (hm:PySem.W.makesIn K C=true)
  (hi:PySem.W.findIn K (.ref C) "__init__"=some (some (.ref f))) (hf:PySem.W.typeIn K (.ref f)=some (.type "function"))
  (h:codeAny (model prog w) (A.under (.builtin "type.__call__" ⟨.ref C::vs,kw⟩)) (.call (.ref f) ⟨.ref (s.heap.objs.size+1)::vs,kw⟩) (PySem.W.InitBack (s.heap.objs.size+1) R)
   {s with heap:=(s.heap.push PySem.W.emptyDict).push (PySem.W.instObj C s.heap.objs.size)}):
  codeAny (model prog w) A (.call (.ref C) ⟨vs,kw⟩) R s:=by
 obtain ⟨hh,g,d,t,os⟩:=s
 exact PySem.W.make_core (PySem.W.makes_of X hm) (PySem.W.looks_findIn X hi) (fun self=>PySem.W.bind_fn X self hf) (.inl rfl) h
end
noncomputable def putF (f:Str) (v:V):List (Str × V)→List (Str × V)
 | []=>[(f,v)]
 | (g,x)::r=>if g=f then (g,v)::r else (g,x)::putF f v r
theorem lookup_putF (f g:Str) (v:V):∀fs:List (Str × V),(putF f v fs).lookup g=if g=f then some v else fs.lookup g
 | []=>by
  show List.lookup g [(f,v)]=_
  by_cases h:g=f
  ·have hb:(g==f)=true:=beq_iff_eq.mpr h
   simp only [List.lookup,hb,if_pos h]
  ·have hb:(g==f)=false:=beq_eq_false_iff_ne.mpr h
   simp only [List.lookup,hb,if_neg h]
 | (k,x)::r=>by
  have ih:=lookup_putF f g v r
  rw [show putF f v ((k,x)::r)=(if k=f then (k,v)::r else (k,x)::putF f v r) from rfl]
  by_cases hk:k=f
  ·rw [if_pos hk]
   by_cases h:g=k
   ·have hb:(g==k)=true:=beq_iff_eq.mpr h
    simp only [List.lookup,hb,if_pos (h.trans hk)]
   ·have hb:(g==k)=false:=beq_eq_false_iff_ne.mpr h
    simp only [List.lookup,hb,if_neg (fun e:g=f=>h (e.trans hk.symm))]
  ·rw [if_neg hk]
   by_cases h:g=k
   ·have hb:(g==k)=true:=beq_iff_eq.mpr h
    simp only [List.lookup,hb,if_neg (fun e:g=f=>hk (h.symm.trans e))]
   ·have hb:(g==k)=false:=beq_eq_false_iff_ne.mpr h
    simp only [List.lookup,hb]
    exact ih
theorem keys_putF (f:Str) (v:V):∀fs:List (Str × V),f∈(putF f v fs).map (·.1)∧∀g,g∈fs.map (·.1)→g∈(putF f v fs).map (·.1)
 | []=>⟨by simp [putF],fun g h=>by simp at h⟩
 | (k,x)::r=>by
  obtain ⟨i1,i2⟩:=keys_putF f v r
  rw [show putF f v ((k,x)::r)=(if k=f then (k,v)::r else (k,x)::putF f v r) from rfl]
  by_cases hk:k=f
  ·rw [if_pos hk]
   subst hk
   exact ⟨by simp,fun g h=>by simpa using h⟩
  ·rw [if_neg hk]
   refine ⟨?_,fun g h=>?_⟩
   ·rw [List.map_cons]
    exact List.mem_cons_of_mem _ i1
   ·rw [List.map_cons] at h ⊢
    rcases List.mem_cons.mp h with e | e
    ·exact List.mem_cons.mpr (.inl e)
    ·exact List.mem_cons_of_mem _ (i2 g e)
theorem length_putF (f:Str) (v:V):∀fs:List (Str × V),(putF f v fs).length≤fs.length+1
 | []=>by simp [putF]
 | (k,x)::r=>by
  have ih:=length_putF f v r
  rw [show putF f v ((k,x)::r)=(if k=f then (k,v)::r else (k,x)::putF f v r) from rfl]
  by_cases hk:k=f
  ·rw [if_pos hk,List.length_cons,List.length_cons];omega
  ·rw [if_neg hk,List.length_cons,List.length_cons];omega
theorem RelO.some_of {v:V} {o:Option Value} (r:RelO (some v) o):∃u,o=some u∧RelV v u:=by
 cases o with
 | none=>exact (show False from r).elim
 | some u=>exact ⟨u,rfl,r⟩
theorem RelO.none_of {o:Option Value} (r:RelO none o):o=none:=by
 cases o with
 | none=>rfl
 | some u=>exact (show False from r).elim
theorem handed_of {v:V} {u:Value} (r:RelV v u):PySem.W.handedIn u=true:=by
 cases v with
 | non=>cases (show u=Value.none from r);rfl
 | bl b=>cases (show u=Value.bool b from r);rfl
 | int i=>obtain ⟨t,e⟩:=(show ∃t,u=Value.int i t from r);cases e;rfl
 | str x=>obtain ⟨t,e⟩:=(show ∃t,u=Value.str x t from r);cases e;rfl
 | byt b=>obtain ⟨t,e⟩:=(show ∃t,u=Value.bytes b t from r);cases e;rfl
 | flt b=>obtain ⟨t,e⟩:=(show ∃t,u=Value.float b t from r);cases e;rfl
 | ref a=>cases (show u=Value.ref a from r);rfl
 | ty n=>cases (show u=Value.type n from r);rfl
section
variable {P:Program} {w:World} {H H':Hp} {h h':Heap} {a C dx:Addr} {fs fs':List (Str × V)}
theorem ins_get (hok:HOk P w H h) (e:H a=some (.ins C dx fs)):∃mA,ObjM h a dx C mA∧(∀f,RelO (fs.lookup f) (mA f))∧PySem.Within mA (fs.map (·.1))∧fs.length≤1000∧H dx=some (.own a):=by
 obtain ⟨d,z,ne,ob,mA,n,r,q⟩:=(show ObjOk P w H h a (.ins C dx fs) from hok a _ e)
 exact ⟨mA,⟨ob,n,ne⟩,r,q,z,d⟩
end
structure Cls (K:PySem.W.Frag) (C:Addr):Prop where
 pg:PySem.W.plainGet K C Str.empty=true
 hd:PySem.W.hasDictIn K C=true
 po:PySem.W.plainOver K C=true
 sa:PySem.W.findIn K (.ref C) "__setattr__"=some (some (.builtin "object.__setattr__"))
theorem Cls.get {K:PySem.W.Frag} {C:Addr} (c:Cls K C) (f:Str):PySem.W.plainGet K C f=true:=c.pg
noncomputable def NoAttr (K:PySem.W.Frag) (C:Addr) (f:Str):Prop:=PySem.W.findIn K (.ref C) f=some none
theorem NoAttr.taker {K:PySem.W.Frag} {C:Addr} {f:Str} (n:NoAttr K C f):PySem.W.takerIn K C f=some none:=by
 unfold PySem.W.takerIn
 rw [show PySem.W.findIn K (.ref C) f=some none from n]
 rfl
structure Meth (K:PySem.W.Frag) (C:Addr) (m:Str) (f:Addr):Prop where
 at_:PySem.W.findIn K (.ref C) m=some (some (.ref f))
 fn:PySem.W.isFn K (.ref f)=true
 kp:PySem.W.keepIn K (.ref f)=true
section
variable {X:Cx} {pins:List (Addr × Obj)} {σ:St} {H:Hp} {s:Shared} {a C dx:Addr} {fs:List (Str × V)} {f:Str} {v:V} {A:Around} {E:Value→Shared→Prop}
theorem getattr_ok {b:Bool} {Q:Value→Shared→Prop} (I:Inv X pins σ H s) (e:H a=some (.ins C dx fs)) (c:Cls X.K C) (n:NoAttr X.K C f) (l:fs.lookup f=some v)
  (h:∀u s',Inv X pins σ H s'→RelV v u→Q u s'):wpAny (model X.prog X.w) A (getAttr (.ref a) f b) Q E s:=by
 obtain ⟨mA,O,r,_,_,_⟩:=ins_get I.hok e
 obtain ⟨u,hu,ru⟩:=RelO.some_of (v:=v) (o:=mA f) (by rw [←l];exact r f)
 exact get_map I.kIn O (c.get f) c.hd n hu (handed_of ru) (h u _ (I.tok _) ru)
theorem getmeth_ok {m:Str} {g:Addr} {pl:Sem Bool} {Q:Value × List Value→Shared→Prop} (I:Inv X pins σ H s) (e:H a=some (.ins C dx fs)) (c:Cls X.K C) (k:Meth X.K C m g) (l:fs.lookup m=none)
  (h:Q (.ref g,[.ref a]) s):wpAny (model X.prog X.w) A (getMethod (.ref a) m pl) Q E s:=by
 obtain ⟨mA,O,r,_,_,_⟩:=ins_get I.hok e
 have hn:mA m=none:=RelO.none_of (by rw [←l];exact r m)
 exact get_meth I.kIn O (c.get m) k.at_ k.fn hn h
theorem setattr_ok {y:V} {u:Value} {Q:Unit→Shared→Prop} (I:Inv X pins σ H s) (e:H a=some (.ins C dx fs)) (c:Cls X.K C) (n:NoAttr X.K C f) (hl:fs.length < 1000) (ry:RelV y u)
  (h:∀s',Inv X pins σ (upd H a (.ins C dx (putF f y fs))) s'→Q () s'):wpAny (model X.prog X.w) A (setAttr (.ref a) f u) Q E s:=by
 obtain ⟨mA,O,r,wi,_,ho⟩:=ins_get I.hok e
 have hz:(fs.map (·.1)).length≤sizeLine:=by rw [List.length_map,sizeLine_eq];omega
 refine set_map I.kIn O c.sa c.po n.taker c.hd wi hz fun h' O' sb=>h _ ?_
 have hd:∃o,h'.get? dx=some o:=let ⟨o,_,_,e',_⟩:=O'.ns;⟨o,e'⟩
 refine I.write (x:=a) (e:=dx) (by rw [e];exact True.intro) (.inr ho) (fun b q hb z=>(sb.2 b hb).trans z) hd ?_
 refine ⟨by rw [upd_ne O.ne];exact ho,?_,O.ne,O'.obj,_,O'.ns,fun g=>?_,fun g hg=>?_⟩
 ·have:=length_putF f y fs;omega
 ·show RelO ((putF f y fs).lookup g) (if g=f then some u else mA g)
  rw [lookup_putF]
  by_cases q:g=f
  ·rw [if_pos q,if_pos q];exact ry
  ·rw [if_neg q,if_neg q];exact r g
 ·by_cases q:g=f
  ·rw [q];exact (keys_putF f y fs).1
  ·refine (keys_putF f y fs).2 g (wi g fun z=>hg ?_)
   show (if g=f then some u else mA g)=none
   rw [if_neg q];exact z
theorem Inv.made (I:Inv X pins σ H s):Inv X pins σ (upd (upd H s.heap.objs.size (.own (s.heap.objs.size+1))) (s.heap.objs.size+1) (.ins C s.heap.objs.size []))
  {s with heap:=(s.heap.push PySem.W.emptyDict).push (PySem.W.instObj C s.heap.objs.size)}:=by
 have e1:(s.heap.push PySem.W.emptyDict).get? s.heap.objs.size=some PySem.W.emptyDict:=Heap.get?_push_size s.heap rfl
 have e2:((s.heap.push PySem.W.emptyDict).push (PySem.W.instObj C s.heap.objs.size)).get? (s.heap.objs.size+1)=some (PySem.W.instObj C s.heap.objs.size):=by
  have:=Heap.get?_push_size (s.heap.push PySem.W.emptyDict) (o:=PySem.W.instObj C s.heap.objs.size) rfl
  rwa [Heap.size_push] at this
 have e3:(s.heap.push PySem.W.emptyDict).Ns s.heap.objs.size (fun _=>none):=⟨PySem.W.emptyDict,#[],_,e1,rfl,(fun e he=>absurd he (by simp)),fun _=>rfl⟩
 have I1:=I.laid (a:=s.heap.objs.size) (o:=.own (s.heap.objs.size+1)) (h':=s.heap.push PySem.W.emptyDict) (t':=s.toks) (fun b u q=>Heap.get?_push_of_some _ q) (Nat.le_refl _) ⟨_,e1⟩
 refine I1.laid (a:=s.heap.objs.size+1) (o:=.ins C s.heap.objs.size []) (t':=s.toks) (fun b u q=>Heap.get?_push_of_some _ q) (Nat.le_of_eq (Heap.size_push _ _)) ?_
 have ne:s.heap.objs.size≠s.heap.objs.size+1:=Nat.ne_of_lt (Nat.lt_succ_self _)
 refine ⟨by rw [upd_ne ne,upd_same],Nat.zero_le _,ne,e2,fun _=>none,(Heap.Ns1.of_empty e3).at fun o q=>Heap.get?_push_of_some _ q,fun _=>True.intro,fun y hy=>absurd rfl hy⟩
theorem attr_of {prog:Program} {w:World} {env:Env} {e:Expr} {f:Str} {pos:Pos} {s:Shared} {Q:Value→Shared→Prop} (hb:attributeBase e f env (eval e env)=eval e env)
  (h:wpAny (model prog w) A (eval e env) (fun o s₁=>wpAny (model prog w) A (getAttr o f true) Q E s₁) E s):wpAny (model prog w) A (eval (.Attribute e f pos) env) Q E s:=
 Attribute_any_ h (by rw [arm_eval_Attribute,hb])
end
noncomputable def tFld (K:PySem.W.Frag) (ta:TE) (f:Str):TE:=fun σ H Q=>ta σ H fun x H1=>∃a C dx fs v,x=.ref a∧H1 a=some (.ins C dx fs)∧Cls K C∧NoAttr K C f∧fs.lookup f=some v∧Q v H1
noncomputable def sFld (K:PySem.W.Frag) (ta tv:TE) (f:Str):TS:=fun D σ H=>tv σ H fun y H1=>ta σ H1 fun x H2=>∃a C dx fs,x=.ref a∧H2 a=some (.ins C dx fs)∧Cls K C∧NoAttr K C f∧fs.length < 1000∧
 D.nx σ (upd H2 a (.ins C dx (putF f y fs)))
section
variable {X:Cx} {o e value:Expr} {f:Str} {pos pos' tpos:Pos} {ta tv:TE}
theorem pe_fld (he:PE X e ta) (hb:attributeBase e f X.env (eval e X.env)=eval e X.env):PE X (.Attribute e f pos) (tFld X.K ta f):=by
 intro pins s σ H Q I h
 refine attr_of hb (thn (he pins s σ H _ I h) fun u s1 ⟨x,H1,I1,rx,a,C,dx,fs,v,ex,ea,c,n,l,q⟩=>?_)
 subst ex
 obtain rfl:u=Value.ref a:=rx
 exact getattr_ok I1 ea c n l fun u' s2 I2 ru=>⟨v,H1,I2,ru,q⟩
theorem ps_fld (ha:PE X o ta) (hv:PE X value tv) (hs:swapsWith value (some (.Attribute o f pos')) pos.line X.env=pure false):PS X (.Assign [.Attribute o f pos'] value pos) (sFld X.K ta tv f):=by
 intro pins s σ H D I h
 refine plainObj_wpAny_Assign_Attribute (thn (hv pins s σ H _ I h) fun u s1 ⟨y,H1,I1,ry,q⟩=>thn (ha pins s1 σ H1 _ I1 q) fun ov s2 ⟨x,H2,I2,rx,a,C,dx,fs,ex,ea,c,n,l,q2⟩=>?_) hs
 subst ex
 obtain rfl:ov=Value.ref a:=rx
 exact setattr_ok I2 ea c n l ry fun s3 I3=>⟨σ,_,I3,q2⟩
theorem methcall_of {pl:Sem Bool} {m:Str} {apos:Pos} {args:List Expr} {pins:List (Addr × Obj)} {s:Shared} {σ:St} {H:Hp} {Q:Value→Shared→Prop} {te:TE} (he:PE X e te) (I:Inv X pins σ H s)
  (h:te σ H fun x H1=>∃a C dx fs g,x=.ref a∧H1 a=some (.ins C dx fs)∧Cls X.K C∧Meth X.K C m g∧fs.lookup m=none∧
   ∀s1,Inv X pins σ H1 s1→wpAny (model X.prog X.w) X.A (callWith pos (.ref g) [.ref a] (backTo pos (starEach args X.env)) (backToKw pos (keywordEach [] X.env))) Q X.xe s1)
  (ht:eval (.Call (.Attribute e m apos) args [] pos) X.env=(do
   let ov ←eval e X.env
   standAt apos.atName
   let (f,first) ←holding [ov] (getMethod ov m pl)
   callWith pos f first (backTo pos (starEach args X.env)) (backToKw pos (keywordEach [] X.env)))):
  wpAny (model X.prog X.w) X.A (eval (.Call (.Attribute e m apos) args [] pos) X.env) Q X.xe s:=by
 refine PySem.W.methodCall_KW (pl:=pl) (thn (he pins s σ H _ I h) fun u s1 ⟨x,H1,I1,rx,a,C,dx,fs,g,ex,ea,c,k,l,q⟩=>?_) ht
 subst ex
 obtain rfl:u=Value.ref a:=rx
 exact getmeth_ok I1 ea c k l (q s1 I1)
end
section
variable {X:Cx} {pins:List (Addr × Obj)} {σ:St} {H:Hp} {s:Shared} {A:Around} {E:Value→Shared→Prop} {Q:Value→Shared→Prop} {c:Value} {b:Bool}
inductive TyOf (K:PySem.W.Frag) (H:Hp):V→Value→Prop where
 | non:TyOf K H .non (.type "NoneType")
 | bl (x:Bool):TyOf K H (.bl x) (.type "bool")
 | int (i:Int):TyOf K H (.int i) (.type "int")
 | str (x:Str):TyOf K H (.str x) (.type "str")
 | flt (x:UInt64):TyOf K H (.flt x) (.type "float")
 | lst {a:Addr} {xs:List V} (e:H a=some (.lst xs)):TyOf K H (.ref a) (.type "list")
 | frz {a:Addr} {o:Obj} {xs:List V} (e:H a=some (.frz o (.lst xs))):TyOf K H (.ref a) (.type "list")
 | tup {a:Addr} {xs:List V} (e:H a=some (.tup xs)):TyOf K H (.ref a) (.type "tuple")
 | dK {a:Addr} {kvs:List (Key × V)} (e:H a=some (.dK kvs)):TyOf K H (.ref a) (.type "dict")
 | dT {a:Addr} {kvs:List (List Key × V)} (e:H a=some (.dT kvs)):TyOf K H (.ref a) (.type "dict")
 | ins {a C dx:Addr} {fs:List (Str × V)} (e:H a=some (.ins C dx fs)) (cl:Cls K C) (ha:PySem.W.findIn K (.ref C) "__class__"=some (some (.builtin "object.__class__")))
   (hn:PySem.W.specialIn K (.builtin "object.__class__") "__get__"=some (some (.builtin "getset_descriptor.__get__"))) (htk:PySem.W.takesIn K (.builtin "object.__class__")=some true)
   (hm:PySem.W.mroIn K C (.type "object")=some true):TyOf K H (.ref a) (.ref C)
theorem isinst_ok {x:V} {u t:Value} (I:Inv X pins σ H s) (rx:RelV x u) (ty:TyOf X.K H x t) (e:PySem.W.kitOne X.K t c=some b) (h:∀tk,Q (.bool b) {s with toks:=tk}):
  wpAny (model X.prog X.w) A (call (.builtin "isinstance") [u,c]) Q E s:=by
 cases ty with
 | non=>cases (show u=Value.none from rx);exact PySem.W.kia_one PySem.W.kitx_none I.kIn True.intro e (fun z=>nomatch z) h
 | bl y=>cases (show u=Value.bool y from rx);exact PySem.W.kia_one PySem.W.kitx_bool I.kIn True.intro e (fun z=>nomatch z) h
 | int i=>obtain ⟨t,q⟩:=(show ∃t,u=Value.int i t from rx);cases q;exact PySem.W.kia_one PySem.W.kitx_int I.kIn True.intro e (fun z=>nomatch z) h
 | str y=>obtain ⟨t,q⟩:=(show ∃t,u=Value.str y t from rx);cases q;exact PySem.W.kia_one PySem.W.kitx_str I.kIn True.intro e (fun z=>nomatch z) h
 | flt y=>obtain ⟨t,q⟩:=(show ∃t,u=Value.float y t from rx);cases q;exact PySem.W.kia_one PySem.W.kitx_float I.kIn True.intro e (fun z=>nomatch z) h
 | @lst a xs ea=>
  cases (show u=Value.ref a from rx)
  obtain ⟨_,_,n,_,h1⟩:=(show ObjOk X.prog X.w H s.heap a (.lst xs) from I.hok a _ ea)
  exact PySem.W.kia_one PySem.W.kitx_list I.kIn ⟨_,h1,rfl⟩ e (fun z=>nomatch z) h
 | @frz a ob xs ea=>
  cases (show u=Value.ref a from rx)
  obtain ⟨_,_,_,n,_,h1⟩:=(show ObjOk X.prog X.w H s.heap a (.frz ob (.lst xs)) from I.hok a _ ea)
  exact PySem.W.kia_one PySem.W.kitx_list I.kIn ⟨_,h1,rfl⟩ e (fun z=>nomatch z) h
 | @tup a xs ea=>
  cases (show u=Value.ref a from rx)
  obtain ⟨_,_,_,p⟩:=(show ObjOk X.prog X.w H s.heap a (.tup xs) from I.hok a _ ea)
  obtain ⟨o,h1,h2,_⟩:=p
  exact PySem.W.kia_one PySem.W.kitx_tuple I.kIn ⟨o,h1,h2⟩ e (fun z=>nomatch z) h
 | @dK a kvs ea=>
  cases (show u=Value.ref a from rx)
  obtain ⟨_,_,vs,_,p⟩:=(show ObjOk X.prog X.w H s.heap a (.dK kvs) from I.hok a _ ea)
  obtain ⟨o,es,ep,h1,h2,_⟩:=p
  exact PySem.W.kia_one PySem.W.kitx_dict I.kIn ⟨o,h1,h2.1⟩ e (fun z=>nomatch z) h
 | @dT a kvs ea=>
  cases (show u=Value.ref a from rx)
  obtain ⟨_,_,xs,_,o,es,ep,h1,h2,_⟩:=(show ObjOk X.prog X.w H s.heap a (.dT kvs) from I.hok a _ ea)
  exact PySem.W.kia_one PySem.W.kitx_dict I.kIn ⟨o,h1,h2.1⟩ e (fun z=>nomatch z) h
 | @ins a C dx fs ea cl ha hn htk hm=>
  cases (show u=Value.ref a from rx)
  obtain ⟨mA,O,_⟩:=ins_get I.hok ea
  obtain ⟨od,J,_⟩:=O.look
  exact PySem.W.kia_one (PySem.W.kitx_own (cl.get _) cl.hd ha hn htk hm) I.kIn J e (fun z=>nomatch z) h
end
open PySem PySem.Spec PyProof.Rows
structure Room (k:Nat) (A:Around):Prop where
 hd:A.handled=none
 dp:A.depth+3 * k+5 < recursionLimit
 un:A.units+16 * k+200 < cLine
theorem Room.mono {j k:Nat} {A:Around} (r:Room k A) (h:j≤k):Room j A:=⟨r.hd,by have:=r.dp;omega,by have:=r.un;omega⟩
theorem Room.deeper {k:Nat} {A:Around} (r:Room (k+1) A) (env:Env):Room k (A.deeper env):=
 ⟨r.hd,by have:=r.dp;show A.depth+1+3 * k+5 < _;omega,by have:=r.un;show A.units+3+16 * k+200 < _;omega⟩
theorem make_depth {A:Around} {C:Addr} {us:List Value} {kw:List (Str × Value)}:(A.under (.builtin "type.__call__" ⟨.ref C::us,kw⟩)).depth=A.depth+1:=by
 first | rfl | simp [Around.under,Code.weight,Code.isCreation,Code.isGuard,Code.isCaller,Code.frames,Code.isFrame,guardIds]
theorem make_units {A:Around} {C:Addr} {us:List Value} {kw:List (Str × Value)}:(A.under (.builtin "type.__call__" ⟨.ref C::us,kw⟩)).units=A.units+1:=by
 first | rfl | simp [Around.under,Code.cUnits,Code.frames,Code.isFrame]
theorem Room.make {k:Nat} {A:Around} (r:Room (k+1) A) (C:Addr) (us:List Value) (kw:List (Str × Value)):Room k (A.under (.builtin "type.__call__" ⟨.ref C::us,kw⟩)):=
 ⟨r.hd,by have:=r.dp;rw [make_depth];omega,by have:=r.un;rw [make_units];omega⟩
theorem Room.depth {k:Nat} {A:Around} (r:Room k A):A.depth < recursionLimit:=by have:=r.dp;omega
theorem Room.units {k:Nat} {A:Around} (r:Room k A):A.units+64 < cLine:=by have:=r.un;omega
noncomputable def tNil:TA:=fun _ H Q=>Q [] H
noncomputable def tCons (ta:TE) (tr:TA):TA:=fun σ H Q=>ta σ H fun x H1=>tr σ H1 fun xs H2=>Q (x::xs) H2
section
variable {X:Cx} {e:Expr} {es:List Expr} {te:TE} {t:TA} {pos:Pos}
theorem pa_nil:PA X [] tNil:=fun _ _ _ _ H Q I h=>Calls.spliced_nil ⟨[],H,I,.nil,h⟩
theorem pa_cons (ha:PE X e te) (hr:PA X es t) (hs:starEach (e::es) X.env=(false,eval e X.env)::starEach es X.env:=by rfl):PA X (e::es) (tCons te t):=by
 intro pos pins s σ H Q I h
 rw [hs]
 show wpAny _ _ (spliced ((false,eval e X.env)::backTo pos (starEach es X.env))) _ _ s
 refine Calls.spliced_cons (thn (ha pins s σ H _ I h) fun u s1 ⟨x,H1,I1,r1,q1⟩=>?_)
 exact thn (hr pos pins s1 σ H1 _ I1 q1) fun us s2 ⟨xs,H2,I2,r2,q2⟩=>⟨x::xs,H2,I2,.cons r1 r2,q2⟩
noncomputable def tTup (t:TA):TE:=fun σ H Q=>t σ H fun xs H1=>xs.length≤sizeLine∧∀p,H1 p=none→Q (.ref p) (upd H1 p (.tup xs))
noncomputable def tLst (t:TA):TE:=fun σ H Q=>t σ H fun xs H1=>xs.length≤sizeLine∧∀p,H1 p=none→Q (.ref p) (upd H1 p (.lst xs))
theorem pe_tup {x1} (h:PA X es t):PE X (.Tuple es x1 pos) (tTup t):=by
 intro pins s σ H Q I hq
 refine wpAny_Tuple_spliced (thn (h pos pins s σ H _ I hq) fun us s1 ⟨xs,H1,I1,r,z,q⟩=>⟨by rw [←r.length];exact z,?_⟩)
 have hf:H1 s1.heap.objs.size=none:=I1.hok.fresh (Nat.le_refl _)
 refine ⟨.ref s1.heap.objs.size,upd H1 s1.heap.objs.size (.tup xs),I1.laid (t':=s1.toks) (fun b u e=>Heap.get?_push_of_some _ e) (Nat.le_refl _) ?_,rfl,q _ hf⟩
 exact ⟨z,us,r,⟨_,Heap.get?_push_size _ rfl,rfl,_,rfl⟩⟩
theorem pe_lst (h:PA X es t):PE X (.List es pos) (tLst t):=by
 intro pins s σ H Q I hq
 refine wpAny_List_spliced (thn (h pos pins s σ H _ I hq) fun us s1 ⟨xs,H1,I1,r,z,q⟩=>⟨by rw [←r.length];exact z,?_⟩)
 have hf:H1 s1.heap.objs.size=none:=I1.hok.fresh (Nat.le_refl _)
 refine ⟨.ref s1.heap.objs.size,upd H1 s1.heap.objs.size (.lst xs),I1.laid (t':=s1.toks) (fun b u e=>Heap.get?_push_of_some _ e) (Nat.le_refl _) ?_,rfl,q _ hf⟩
 exact ⟨z,us,0,r,Heap.get?_push_size _ rfl⟩
end
noncomputable abbrev Sp:=List V→Hp→VK→XK→Prop
noncomputable abbrev CXT:=List Env→Hp→Shared→XK→Value→Shared→Prop
structure Env0 (P:Program) (w:World) (K:PySem.W.Frag) (mg:Str→Option Value) (base:Heap) (A:Around) (outer:List Env) (s:Shared) (H:Hp):Prop where
 frames:A.frames=some outer
 mod:Mod K mg base
 bs:∀b o,base.get? b=some o→s.heap.get? b=some o∧H b=none
 bsz:base.objs.size≤s.heap.objs.size
 funs:s.heap.FunFrames base outer
 frf:∀b∈frs outer,H b=none
 hok:HOk P w H s.heap
 bare:AllBare s.gens
noncomputable def CE (outer:List Env) (P:Program) (w:World) (H:Hp) (s:Shared) (Q:VK) (u:Value) (s':Shared):Prop:=
 ∃v H',s'.os=s.os∧AllBare s'.gens∧Un (frs outer) [] H H' s.heap s'.heap∧HOk P w H' s'.heap∧RelV v u∧Q v H'
noncomputable def CR (CX:CXT) (outer:List Env) (P:Program) (w:World) (H:Hp) (s:Shared) (Q:VK) (E:XK) (r:Result) (s':Shared):Prop:=
 match r with
 | .ok (.ret u)=>CE outer P w H s Q u s'
 | .ok _=>False
 | .error e=>CX outer H s E e s'
structure FnOk (P:Program) (w:World) (K:PySem.W.Frag) (mg:Str→Option Value) (base:Heap) (CX:CXT) (k:Nat) (f:Addr) (fd:FuncData) (ps:List Str) (sp:Sp):Prop where
 len:∀vs H Q E,sp vs H Q E→vs.length=ps.length
 run:∀(A:Around) (outer:List Env) (s:Shared) (H:Hp) (args:Args) (us:List Value) (vs:List V) (Q:VK) (E:XK),Room k A→Env0 P w K mg base A outer s H→BindsTo s fd args (ps.zip us)→Vals vs us→sp vs H Q E→
  codeAny (model P w) A (.call (.ref f) args) (CR CX outer P w H s Q E) s
theorem Env0.make {P:Program} {w:World} {K:PySem.W.Frag} {mg:Str→Option Value} {base:Heap} {A:Around} {outer:List Env} {s:Shared} {H:Hp} (e:Env0 P w K mg base A outer s H) (C:Addr) (us:List Value) (kw:List (Str × Value)):
  Env0 P w K mg base (A.under (.builtin "type.__call__" ⟨.ref C::us,kw⟩)) outer s H:=⟨by first | exact e.frames | (simpa [Around.under,Code.envs,Code.isFrame,pushEnvs] using e.frames),e.mod,e.bs,e.bsz,e.funs,e.frf,e.hok,e.bare⟩
section
variable {X:Cx} {pins:List (Addr × Obj)} {σ:St} {H:Hp} {s s':Shared}
theorem Inv.env0 (I:Inv X pins σ H s):Env0 X.prog X.w X.K X.mg X.base X.A X.stack s H:=
 ⟨I.ok.frames,I.ok.mod,I.bs,Nat.le_trans I.ok.bsz I.sz,I.stack,I.stkFree,I.hok,I.bare⟩
theorem Inv.after {Q:VK} {u:Value} (I:Inv X pins σ H s) (h:CE X.stack X.prog X.w H s Q u s'):EP X pins σ Q u s':=by
 obtain ⟨v,H',os,bare,un,hok,r,q⟩:=h
 obtain ⟨hh,g,d,t,os'⟩:=s'
 obtain rfl:os'=s.os:=os
 exact ⟨v,H',I.call (h':=hh) (g':=g) (d':=d) (t':=t) (ch:=[]) un hok bare (fun b z=>absurd z (by simp)),r,q⟩
end
noncomputable def tCall (sp:Sp) (dvs:List V) (E:XK) (t:TA):TE:=fun σ H Q=>t σ H fun vs H1=>sp (vs++dvs) H1 Q E
noncomputable def tMeth (C:Addr) (m:Str) (sp:Sp) (dvs:List V) (E:XK) (ta:TE) (t:TA):TE:=fun σ H Q=>ta σ H fun x H1=>∃a dx fs,x=.ref a∧H1 a=some (.ins C dx fs)∧fs.lookup m=none∧
 t σ H1 fun vs H2=>sp (x::(vs++dvs)) H2 Q E
noncomputable def tMake (C:Addr) (sp:Sp) (dvs:List V) (E:XK) (t:TA):TE:=fun σ H Q=>t σ H fun vs H1=>∀x dx,H1 x=none→H1 dx=none→dx≠x→
 sp (.ref x::(vs++dvs)) (upd (upd H1 dx (.own x)) x (.ins C dx [])) (fun v H2=>v=.non∧Q (.ref x) H2) E
noncomputable def Binds (K:PySem.W.Frag) (fd:FuncData) (ps:List Str) (ds:List Value):Prop:=
 ∀(s:Shared) (us:List Value),K.In s.heap→(us++ds).length=ps.length→BindsTo s fd ⟨us,[]⟩ (ps.zip (us++ds))
theorem Binds.all {K:PySem.W.Frag} {fd:FuncData} {ps:List Str} (h:∀us:List Value,us.length=ps.length→bindArgs fd ⟨us,[]⟩=pure (ps.zip us)):Binds K fd ps []:=fun s us _ hl=>by
 rw [List.append_nil] at hl ⊢
 exact .of_eq (h us hl)
noncomputable def Passes (CX:CXT) (X:Cx) (E:XK):Prop:=∀(pins:List (Addr × Obj)) (σ:St) (H:Hp) (s:Shared) (e:Value) (s':Shared),Inv X pins σ H s→CX X.stack H s E e s'→X.xe e s'
section
variable {X:Cx} {CX:CXT} {k:Nat} {f C:Addr} {fd:FuncData} {ps:List Str} {sp:Sp} {dvs:List V} {ds:List Value} {E:XK} {x m:Str} {p pos apos:Pos} {e o:Expr} {es:List Expr} {ta:TE} {t:TA}
theorem run_fn {pins:List (Addr × Obj)} {σ:St} {H:Hp} {s:Shared} {Q:VK} {us:List Value} {vs:List V} (F:FnOk X.prog X.w X.K X.mg X.base CX k f fd ps sp) (hr:Room k X.A) (hb:Binds X.K fd ps ds) (hd:Vals dvs ds) (hx:Passes CX X E)
  (I:Inv X pins σ H s) (r:Vals vs us) (h:sp (vs++dvs) H Q E):wpAny (model X.prog X.w) X.A (call (.ref f) us) (EP X pins σ Q) X.xe s:=by
 have r2:Vals (vs++dvs) (us++ds):=r.append hd
 have hl:(us++ds).length=ps.length:=by rw [←r2.length];exact F.len _ _ _ _ h
 refine wpAny_call (codeAny_mono (F.run X.A X.stack s H ⟨us,[]⟩ (us++ds) (vs++dvs) Q E hr I.env0 (hb s us I.kIn hl) r2 h) fun r s' hq=>?_)
 cases r with
 | error e=>exact hx pins σ H s e s' I hq
 | ok fl=>
  cases fl with
  | ret u=>exact I.after hq
  | next=>exact False.elim hq
  | brk=>exact False.elim hq
  | cont=>exact False.elim hq
theorem pe_call (F:FnOk X.prog X.w X.K X.mg X.base CX k f fd ps sp) (hr:Room k X.A) (hg:Gl X x) (hm:X.mg x=some (.ref f)) (hk:PySem.W.keepIn X.K (.ref f)=true) (hb:Binds X.K fd ps ds) (hd:Vals dvs ds) (hx:Passes CX X E)
  (ha:PA X (e::es) t) (hdb:(x==("__debug__":Str))=false:=by decide) (he:starEach (e::es) X.env=(false,eval e X.env)::starEach es X.env:=by rfl) (hpl:(backTo pos (starEach es X.env)).any (·.1)=false:=by rfl):
  PE X (.Call (.Name x p) (e::es) [] pos) (tCall sp dvs E t):=by
 intro pins s σ H Q I h
 refine wpAny_Call_Name_kw (ld_glob I hg hm ?_ hdb)
 refine PySem.W.callWith_K (h₀:=X.base) I.ok.mod.kin hk (thn (ha pos pins s σ H _ I h) fun us s1 ⟨vs,H1,I1,r,q⟩=>⟨I1.kIn,?_⟩) he hpl
 exact run_fn F hr hb hd hx I1 r q
theorem pe_meth {pl:Sem Bool} (he:PE X o ta) (c:Cls X.K C) (hm:Meth X.K C m f) (F:FnOk X.prog X.w X.K X.mg X.base CX k f fd ps sp) (hr:Room k X.A) (hb:Binds X.K fd ps ds) (hd:Vals dvs ds) (hx:Passes CX X E) (ha:PA X (e::es) t)
  (hst:starEach (e::es) X.env=(false,eval e X.env)::starEach es X.env:=by rfl) (hpl:(backTo pos (starEach es X.env)).any (·.1)=false:=by rfl)
  (ht:eval (.Call (.Attribute o m apos) (e::es) [] pos) X.env=(do
   let ov ←eval o X.env
   standAt apos.atName
   let (f,first) ←holding [ov] (getMethod ov m pl)
   callWith pos f first (backTo pos (starEach (e::es) X.env)) (backToKw pos (keywordEach [] X.env))):=by rfl):
  PE X (.Call (.Attribute o m apos) (e::es) [] pos) (tMeth C m sp dvs E ta t):=by
 intro pins s σ H Q I h
 refine PySem.W.methodCall_KW (pl:=pl) (thn (he pins s σ H _ I h) fun u s1 ⟨x,H1,I1,rx,a,dx,fs,ex,ea,l,q⟩=>?_) ht
 subst ex
 obtain rfl:u=Value.ref a:=rx
 refine getmeth_ok I1 ea c hm l ?_
 refine PySem.W.callWith_K (first:=[.ref a]) (h₀:=X.base) I.ok.mod.kin hm.kp (thn (ha pos pins s1 σ H1 _ I1 q) fun us s2 ⟨vs,H2,I2,r,q2⟩=>⟨I2.kIn,?_⟩) hst hpl
 exact run_fn (us:=.ref a::us) (vs:=.ref a::vs) F hr hb hd hx I2 (.cons rfl r) q2
theorem pe_meth0 {pl:Sem Bool} (he:PE X o ta) (c:Cls X.K C) (hm:Meth X.K C m f) (F:FnOk X.prog X.w X.K X.mg X.base CX k f fd ps sp) (hr:Room k X.A) (hb:Binds X.K fd ps ds) (hd:Vals dvs ds) (hx:Passes CX X E)
  (ht:eval (.Call (.Attribute o m apos) [] [] pos) X.env=(do
   let ov ←eval o X.env
   standAt apos.atName
   let (f,first) ←holding [ov] (getMethod ov m pl)
   callWith pos f first (backTo pos (starEach [] X.env)) (backToKw pos (keywordEach [] X.env))):=by rfl):
  PE X (.Call (.Attribute o m apos) [] [] pos) (tMeth C m sp dvs E ta tNil):=by
 intro pins s σ H Q I h
 refine PySem.W.methodCall_KW (pl:=pl) (thn (he pins s σ H _ I h) fun u s1 ⟨x,H1,I1,rx,a,dx,fs,ex,ea,l,q⟩=>?_) ht
 subst ex
 obtain rfl:u=Value.ref a:=rx
 refine getmeth_ok I1 ea c hm l ?_
 exact PySem.W.callWith_K0 (first:=[.ref a]) I1.kIn hm.kp (run_fn (us:=[.ref a]) (vs:=[.ref a]) F hr hb hd hx I1 (.cons rfl .nil) q)
structure Mk (K:PySem.W.Frag) (C f:Addr):Prop where
 makes:PySem.W.makesIn K C=true
 init:PySem.W.findIn K (.ref C) "__init__"=some (some (.ref f))
 fn:PySem.W.isFn K (.ref f)=true
 kp:PySem.W.keepIn K (.ref C)=true
theorem run_make {pins:List (Addr × Obj)} {σ:St} {H:Hp} {s:Shared} {Q:VK} {us:List Value} {vs:List V} (M:Mk X.K C f) (F:FnOk X.prog X.w X.K X.mg X.base CX k f fd ps sp) (hr:Room (k+1) X.A) (hb:Binds X.K fd ps ds) (hd:Vals dvs ds)
  (hx:Passes CX X E) (I:Inv X pins σ H s) (r:Vals vs us)
  (h:∀x dx,H x=none→H dx=none→dx≠x→sp (.ref x::(vs++dvs)) (upd (upd H dx (.own x)) x (.ins C dx [])) (fun v H2=>v=.non∧Q (.ref x) H2) E):
  wpAny (model X.prog X.w) X.A (call (.ref C) us) (EP X pins σ Q) X.xe s:=by
 have hq:=h (s.heap.objs.size+1) s.heap.objs.size (I.hok.fresh (Nat.le_succ _)) (I.hok.fresh (Nat.le_refl _)) (Nat.ne_of_lt (Nat.lt_succ_self _))
 have I2:=Inv.made (C:=C) I
 have r2:Vals (V.ref (s.heap.objs.size+1)::(vs++dvs)) (Value.ref (s.heap.objs.size+1)::(us++ds)):=.cons rfl (r.append hd)
 have hl:(Value.ref (s.heap.objs.size+1)::us++ds).length=ps.length:=by
  have e:=r2.length
  rw [F.len _ _ _ _ hq] at e
  exact e.symm
 refine wpAny_call (make_map (f:=f) I.kIn M.makes M.init (beq_iff_eq.mp M.fn) (codeAny_mono (F.run _ X.stack _ _ ⟨Value.ref (s.heap.objs.size+1)::us,[]⟩ (Value.ref (s.heap.objs.size+1)::(us++ds)) _ _ E (hr.make C us [])
  (I2.env0.make C us []) (hb _ (Value.ref (s.heap.objs.size+1)::us) I2.kIn hl) r2 hq) fun r s' hq'=>?_))
 cases r with
 | error e=>exact hx pins σ _ _ e s' I2 hq'
 | ok fl=>
  cases fl with
  | ret u=>
   obtain ⟨v,H',I3,rv,ev,q3⟩:=I2.after hq'
   subst ev
   exact ⟨rv,⟨V.ref (s.heap.objs.size+1),H',I3,rfl,q3⟩⟩
  | next=>exact False.elim hq'
  | brk=>exact False.elim hq'
  | cont=>exact False.elim hq'
theorem pe_make (M:Mk X.K C f) (F:FnOk X.prog X.w X.K X.mg X.base CX k f fd ps sp) (hr:Room (k+1) X.A) (hg:Gl X x) (hm:X.mg x=some (.ref C)) (hb:Binds X.K fd ps ds) (hd:Vals dvs ds) (hx:Passes CX X E)
  (ha:PA X (e::es) t) (hdb:(x==("__debug__":Str))=false:=by decide) (he:starEach (e::es) X.env=(false,eval e X.env)::starEach es X.env:=by rfl) (hpl:(backTo pos (starEach es X.env)).any (·.1)=false:=by rfl):
  PE X (.Call (.Name x p) (e::es) [] pos) (tMake C sp dvs E t):=by
 intro pins s σ H Q I h
 refine wpAny_Call_Name_kw (ld_glob I hg hm ?_ hdb)
 refine PySem.W.callWith_K (h₀:=X.base) I.ok.mod.kin M.kp (thn (ha pos pins s σ H _ I h) fun us s1 ⟨vs,H1,I1,r,q⟩=>⟨I1.kIn,?_⟩) he hpl
 exact run_make M F hr hb hd hx I1 r q
end
noncomputable def PK (X:Cx) (kws:List Keyword) (t:TA):Prop:=
 ∀(pos:Pos) (pins:List (Addr × Obj)) (s:Shared) (σ:St) (H:Hp) (Q:List V→Hp→Prop),Inv X pins σ H s→t σ H Q→wpAny (model X.prog X.w) X.A (evalAll ((backToKw pos (keywordEach kws X.env)).map (·.2))) (AP X pins σ Q) X.xe s
section
variable {X:Cx} {CX:CXT} {k:Nat} {f C:Addr} {fd:FuncData} {ps ks:List Str} {sp:Sp} {E:XK} {x m:Str} {p pos apos kpos:Pos} {e o:Expr} {es:List Expr} {kws:List Keyword} {te ta:TE} {t tk:TA} {nm:Option Str}
theorem pk_nil:PK X [] tNil:=fun _ _ _ _ H Q I h=>wpAny_evalAll_nil ⟨[],H,I,.nil,h⟩
theorem pk_cons (ha:PE X e te) (hr:PK X kws t):PK X (⟨nm,e,kpos⟩::kws) (tCons te t):=by
 intro pos pins s σ H Q I h
 show wpAny _ _ (evalAll ((do let v ←eval e X.env;standAt pos;pure v)::(backToKw pos (keywordEach kws X.env)).map (·.2))) _ _ s
 refine wpAny_evalAll_cons (wpAny_bind (thn (ha pins s σ H _ I h) fun u s1 ⟨x,H1,I1,r1,q1⟩=>wpAny_bind (wpAny_standAt (wpAny_pure ?_))))
 exact thn (hr pos pins s1 σ H1 _ I1 q1) fun us s2 ⟨xs,H2,I2,r2,q2⟩=>⟨x::xs,H2,I2,.cons r1 r2,q2⟩
variable {g:List Value→List Value→List Value} {gV:List V→List V→List V}
end
structure FnScope (N P:List Str) (sc:Scope):Prop where
 kind:sc.kind=.function
 co:sc.isCoroutine=false
 gen:sc.isGenerator=false
 nd:N.Nodup
 pre:N.take P.length=P
 par:∀x∈P,sc.names.lookup x=some .local∨sc.names.lookup x=some .cell
 nofree:∀y∈sc.names,y.2≠.free
theorem bindL_out {kindOf:Str→Option NameKind} {x:Str}:∀{binds:List (Str × Value)} {m:Str→Option Value},(∀v,(x,v)∉binds)→bindL kindOf binds m x=m x
 | [],_,_=>rfl
 | (n,v)::r,m,h=>by
  unfold bindL
  rw [bindL_out fun w hw=>h w (List.mem_cons_of_mem _ hw)]
  split
  ·have:x≠n:=by rintro rfl;exact h v List.mem_cons_self
   simp [this]
  ·rfl
theorem bindC_out {kindOf:Str→Option NameKind} {x:Str}:∀{binds:List (Str × Value)} {m:Str→Option Value},(∀v,(x,v)∉binds)→bindC kindOf binds m x=m x
 | [],_,_=>rfl
 | (n,v)::r,m,h=>by
  unfold bindC
  rw [bindC_out fun w hw=>h w (List.mem_cons_of_mem _ hw)]
  split
  ·rfl
  ·have:x≠n:=by rintro rfl;exact h v List.mem_cons_self
   simp [this]
theorem bindL_get {kindOf:Str→Option NameKind} {x:Str} {v:Value}:∀{P:List Str} {vs:List Value} {i:Nat} {m:Str→Option Value},P.Nodup→P[i]?=some x→vs[i]?=some v→kindOf x=some .local→
  bindL kindOf (P.zip vs) m x=some v
 | [],_,_,_,_,h,_,_=>by simp at h
 | _::_,[],_,_,_,_,h,_=>by simp at h
 | p::P,w::vs,0,m,nd,h1,h2,hk=>by
  simp at h1 h2;subst h1;subst h2
  show bindL kindOf ((p,w)::P.zip vs) m p=_
  unfold bindL
  rw [bindL_out fun v hv=>(List.nodup_cons.mp nd).1 (List.of_mem_zip hv).1,if_pos hk]
  simp
 | p::P,w::vs,i+1,m,nd,h1,h2,hk=>by
  show bindL kindOf ((p,w)::P.zip vs) m x=_
  unfold bindL
  exact bindL_get (i:=i) (List.nodup_cons.mp nd).2 (by simpa using h1) (by simpa using h2) hk
theorem bindC_get {kindOf:Str→Option NameKind} {x:Str} {v:Value}:∀{P:List Str} {vs:List Value} {i:Nat} {m:Str→Option Value},P.Nodup→P[i]?=some x→vs[i]?=some v→kindOf x≠some .local→
  bindC kindOf (P.zip vs) m x=some v
 | [],_,_,_,_,h,_,_=>by simp at h
 | _::_,[],_,_,_,_,h,_=>by simp at h
 | p::P,w::vs,0,m,nd,h1,h2,hk=>by
  simp at h1 h2;subst h1;subst h2
  show bindC kindOf ((p,w)::P.zip vs) m p=_
  unfold bindC
  rw [bindC_out fun v hv=>(List.nodup_cons.mp nd).1 (List.of_mem_zip hv).1,if_neg hk]
  simp
 | p::P,w::vs,i+1,m,nd,h1,h2,hk=>by
  show bindC kindOf ((p,w)::P.zip vs) m x=_
  unfold bindC
  exact bindC_get (i:=i) (List.nodup_cons.mp nd).2 (by simpa using h1) (by simpa using h2) hk
noncomputable def start (N:List Str) (vs:List V):St:=vs.map some++List.replicate (N.length - vs.length) none
noncomputable def cxOf (CX:CXT) (P:Program) (w:World) (K:PySem.W.Frag) (mg:Str→Option Value) (base:Heap) (N:List Str) (qual:Str) (scope:Scope) (f:Addr) (cd:Value) (A:Around) (outer:List Env) (s:Shared) (H:Hp) (E:XK):Cx where
 prog:=P
 w:=w
 K:=K
 mg:=mg
 base:=base
 A:=A.deeper (envOfC qual scope s.heap.objs.size f cd)
 N:=N
 s₀:=s
 H₀:=H
 env:=envOfC qual scope s.heap.objs.size f cd
 outer:=outer
 stack:=envOfC qual scope s.heap.objs.size f cd::outer
 ex:=[]
 calm:=true
 fn:=fun _=>true
 pn:=[]
 xe:=fun e s'=>wpAny (model P w) (A.deeper (envOfC qual scope s.heap.objs.size f cd)) (leaving (envOfC qual scope s.heap.objs.size f cd) e) (fun _ s''=>CX outer H s E e s'') (fun e' s''=>CX outer H s E e' s'') s'
theorem cell_has {sc:Scope} {n:Nat} {x:Str} (h:sc.names.lookup x=some .cell):∃c,(cellsFrom n sc.names []).lookup x=some c:=by
 have q:=PySem.W.cellsFrom_some sc.names n [] (.inl h)
 exact Option.isSome_iff_exists.mp q
theorem inv_start {CX:CXT} {P:Program} {w:World} {K:PySem.W.Frag} {mg:Str→Option Value} {base:Heap} {N ps:List Str} {qual:Str} {scope:Scope} {f:Addr} {cd:Value} {A:Around} {outer:List Env} {s s1:Shared} {H:Hp} {E:XK} {us:List Value} {vs:List V}
  (S:FnScope N ps scope) (hd:A.handled=none) (e0:Env0 P w K mg base A outer s H) (hl:vs.length=ps.length) (r:Vals vs us)
  (x:InCallC s s.heap.objs.size (bindL (envOfC qual scope s.heap.objs.size f cd).kindOf (ps.zip us) fun _=>none) (cellsFrom (s.heap.objs.size+1) scope.names []) (bindC (envOfC qual scope s.heap.objs.size f cd).kindOf (ps.zip us) fun _=>none) s1):
  Inv (cxOf CX P w K mg base N qual scope f cd A outer s H E) [] (start N vs) H s1:=by
 have hpl:ps.length≤N.length:=by have:=congrArg List.length S.pre;rw [List.length_take] at this;omega
 obtain ⟨h1,tk,rfl,hk⟩:=x.done
 have noA:∀b:Addr,b∉(cxOf CX P w K mg base N qual scope f cd A outer s H E).ex:=fun b z=>absurd (show b∈([]:List Addr) from z) (by simp)
 refine ⟨⟨e0.mod,S.kind,rfl,rfl,Nat.le_refl _,fun y z c h1 h2=>?_,fun y hy=>?_,fun y c _ h=>?_,fun _=>hd,Around.frames_deeper e0.frames,.inr ⟨rfl,rfl⟩,fun b z=>absurd z (noA b),e0.bs,e0.bsz,fun b _ _=>noA b,fun b z=>absurd z (noA b),e0.funs,e0.frf⟩,
  rfl,e0.bare,Un.kept hk,⟨_,x.toInCall.ns,fun i y v h1 h2 h3=>?_⟩,fun y c h=>⟨_,x.cell y c h⟩,e0.hok.fresh (Nat.le_refl _),fun y c h=>?_,fun p hp=>absurd (show p∈([]:List (Addr × Obj)) from hp) (by simp),e0.hok.kept hk,?_⟩
 ·exact name_of_addr x.apart (PySem.mem_of_lookup h1) (PySem.mem_of_lookup h2)
 ·have hy:scope.names.lookup y=some .cell∨scope.names.lookup y=some .free:=hy
  rcases hy with hy | hy
  ·exact cell_has hy
  ·exact absurd rfl (S.nofree _ (PySem.mem_of_lookup hy))
 ·exact Nat.le_of_lt (x.above y c (PySem.mem_of_lookup h))
 ·have hi:i < vs.length:=by
   unfold start at h2
   by_cases hi:i < vs.length
   ·exact hi
   ·rw [List.getElem?_append_right (by simpa using hi)] at h2
    rw [List.getElem?_replicate] at h2
    split at h2 <;> cases h2
  have ha:vs[i]?=some v:=by
   unfold start at h2
   rw [List.getElem?_append_left (by simpa using hi),List.getElem?_map] at h2
   cases e:vs[i]? with
   | none=>rw [e] at h2;cases h2
   | some a=>rw [e] at h2;cases h2;rfl
  obtain ⟨u,hu,rv⟩:=r.get ha
  have hp:ps[i]?=some y:=by
   rw [←S.pre,List.getElem?_take_of_lt (by omega)];exact h1
  have ndP:ps.Nodup:=by rw [←S.pre];exact S.nd.sublist (List.take_sublist _ _)
  refine ⟨u,rv,?_⟩
  rcases S.par y (List.mem_of_getElem? hp) with k | k
  ·exact .inl ⟨k,bindL_get ndP hp hu k⟩
  ·obtain ⟨c,e⟩:=cell_has (n:=s.heap.objs.size+1) k
   refine .inr ⟨.inl k,c,e,?_⟩
   have q:=x.cell y c e
   rw [bindC_get ndP hp hu (by show scope.names.lookup y≠_;rw [k];decide)] at q
   exact q
 ·exact e0.hok.fresh (Nat.le_of_lt (x.above y c (PySem.mem_of_lookup h)))
 ·unfold start
  show _=N.length
  rw [List.length_append,List.length_map,List.length_replicate]
  omega
theorem fn_of {CX:CXT} {P:Program} {w:World} {K:PySem.W.Frag} {mg:Str→Option Value} {base:Heap} {k:Nat} {f:Addr} {name qual:Str} {params:Arguments} {body:List Stmt} {scope:Scope} {dV kV doc pm cdv ct oc:Value} {an od:Option Addr}
  {osl:Array (Option Value)} {N ps:List Str} {sp:Sp} (lk:K.lookup f=some ⟨oc,od,.func (PySem.W.fnOf name qual params body scope dV kV doc pm an cdv ct),osl⟩) (hcd:PySem.W.codeIn K cdv qual=true) (S:FnScope N ps scope)
  (len:∀vs H Q E,sp vs H Q E→vs.length=ps.length)
  (hbody:∀(A:Around) (outer:List Env) (s:Shared) (H:Hp) (vs:List V) (Q:VK) (E:XK),Room k (A.deeper (envOfC qual scope s.heap.objs.size f cdv))→sp vs H Q E→
   ∃t,PSs (cxOf CX P w K mg base N qual scope f cdv A outer s H E) body t∧t {nx:=fun _ H'=>Q .non H',rt:=Q} (start N vs) H):
  FnOk P w K mg base CX (k+1) f (PySem.W.fnOf name qual params body scope dV kV doc pm an cdv ct) ps sp:=by
 refine ⟨len,fun A outer s H args us vs Q E hr e0 hb r hsp=>?_⟩
 have hl:=len _ _ _ _ hsp
 have KX:K.In s.heap:=e0.mod.kin.keeps fun b o e=>(e0.bs b o e).1
 have lim:s.heap.NoLimit:=e0.mod.nolimit.keeps fun b o e=>(e0.bs b o e).1
 have hkind:∀y∈ps.zip us,scope.names.lookup y.1=some .local∨(scope.names.lookup y.1=some .cell∧((cellsFrom (s.heap.objs.size+1) scope.names []).lookup y.1).isSome=true):=fun ⟨n,v⟩ hy=>by
  rcases S.par n (List.of_mem_zip hy).1 with q | q
  ·exact .inl q
  ·exact .inr ⟨q,PySem.W.cellsFrom_some _ _ _ (.inl q)⟩
 refine codeAny_call_function hr.depth (KX _ _ lk) rfl S.co S.gen rfl (PySem.W.codeRec_of KX hcd) (hb _ _ _ _ ?_)
 refine wpAny_newFunctionEnv_cells S.kind hkind fun env he s1 x=>?_
 subst he
 refine ⟨lim.keeps x.toInCall.keep,codeAny_func ?_⟩
 obtain ⟨t,ht,hq⟩:=hbody A outer s H vs Q E (hr.deeper _) hsp
 have I:Inv (cxOf CX P w K mg base N qual scope f cdv A outer s H E) [] (start N vs) H s1:=inv_start S hr.hd e0 hl r x
 refine wpAny_mono (ht [] s1 (start N vs) H _ I hq) (fun fl s' hs=>?_) fun e s' hs=>hs
 have fin:∀{σ':St} {H':Hp} {v:V} {u:Value},Inv (cxOf CX P w K mg base N qual scope f cdv A outer s H E) [] σ' H' s'→RelV v u→Q v H'→CE outer P w H s Q u s':=
  fun {σ' H' v u} J rv q=>⟨v,H',J.os,J.bare,J.base,J.hok,rv,q⟩
 cases fl with
 | ret u=>
  obtain ⟨v,σ',H',J,rv,q⟩:=hs
  exact fin J rv q
 | next=>
  obtain ⟨σ',H',J,q⟩:=hs
  exact fin (v:=V.non) (u:=Value.none) J rfl q
 | brk=>
  obtain ⟨_,_,_,q⟩:=hs
  exact False.elim q
 | cont=>
  obtain ⟨_,_,_,q⟩:=hs
  exact False.elim q
open PySem PySem.Spec PyProof.Rows
section
variable {X:Cx} {x:Str} {p pos:Pos} {e:Expr} {es:List Expr} {t:TA} {id T:String} {r:List V→Hp→VK→Prop}
noncomputable def tCB (r:List V→Hp→VK→Prop) (t:TA):TE:=fun σ H Q=>t σ H fun vs H1=>r vs H1 Q
theorem pe_callB (hc:CallR X (.builtin id) r) (hg:Gl X x) (hm:X.mg x=none) (hv:bootBuiltins x=some (.builtin id)) (ha:PA X (e::es) t) (hn:x≠"__name__":=by decide) (hdb:(x==("__debug__":Str))=false:=by decide)
  (he:starEach (e::es) X.env=(false,eval e X.env)::starEach es X.env:=by rfl) (hpl:(backTo pos (starEach es X.env)).any (·.1)=false:=by rfl):PE X (.Call (.Name x p) (e::es) [] pos) (tCB r t):=by
 intro pins s σ H Q I h
 refine wpAny_Call_Name_kw (ld_blt I hg hm hv ?_ hn hdb)
 exact PyProof.Rows.callWith_builtin1 (thn (ha pos pins s σ H _ I h) fun us s1 ⟨vs,H1,I1,r1,q1⟩=>hc pins s1 σ H1 vs us Q I1 r1 q1) he hpl
theorem pe_callTy (hc:CallR X (.type T) r) (hg:Gl X x) (hm:X.mg x=none) (hv:bootBuiltins x=some (.type T)) (ha:PA X (e::es) t) (hn:x≠"__name__":=by decide) (hdb:(x==("__debug__":Str))=false:=by decide)
  (he:starEach (e::es) X.env=(false,eval e X.env)::starEach es X.env:=by rfl) (hpl:(backTo pos (starEach es X.env)).any (·.1)=false:=by rfl):PE X (.Call (.Name x p) (e::es) [] pos) (tCB r t):=by
 intro pins s σ H Q I h
 refine wpAny_Call_Name_kw (ld_blt I hg hm hv ?_ hn hdb)
 exact PyProof.Rows.callWith_type1 (thn (ha pos pins s σ H _ I h) fun us s1 ⟨vs,H1,I1,r1,q1⟩=>hc pins s1 σ H1 vs us Q I1 r1 q1) he hpl
end
end L2
namespace HT
open PySem PyProof.Rows
noncomputable def lexLt:List Int→List Int→Bool
 | [],[]=>false
 | [],_::_=>true
 | _::_,[]=>false
 | x::xs,y::ys=>if x=y then lexLt xs ys else decide (x < y)
section
open PySem.SeqAt
open PySem.AutoSeq1 (wpAny_loadPart')
open PySem.MeetsSeq PySem.MeetsSeq2 PySem.MeetsSeq3
end
section
variable {prog:Program} {w:World} {A:Around} {E:Value→Shared→Prop} {s:Shared}
noncomputable def sIx (n d:Nat):Option Int→Nat
 | none=>d
 | some v=>if v < 0 then (v+(n:Int)).toNat else min v.toNat n
theorem sIx_nat (n d k:Nat):sIx n d (some (k:Int))=min k n:=by
 show (if (k:Int) < 0 then ((k:Int)+(n:Int)).toNat else min (k:Int).toNat n)=min k n
 rw [if_neg (by omega),Int.toNat_natCast]
end
end HT
namespace L2
open PySem PySem.Spec PyProof.Rows
noncomputable abbrev TO:=St→Hp→(Option Int→Hp→Prop)→Prop
noncomputable def PO (X:Cx) (e:Option Expr) (t:TO):Prop:=
 ∀(pins:List (Addr × Obj)) (s:Shared) (σ:St) (H:Hp) (Q:Option Int→Hp→Prop),Inv X pins σ H s→t σ H Q→
  wpAny (model X.prog X.w) X.A (evalPart e X.env) (fun u s'=>∃o H',Inv X pins σ H' s'∧IsPart u o∧Q o H') X.xe s
noncomputable def tNoPart:TO:=fun _ H Q=>Q none H
noncomputable def tPart (t:TE):TO:=fun σ H Q=>t σ H fun x H1=>∃i,x=.int i∧Q (some i) H1
section
variable {X:Cx} {e:Expr} {te:TE} {lo hi:Option Expr} {tl th:TO} {pos p2:Pos}
theorem po_none:PO X none tNoPart:=by
 intro pins s σ H Q I h
 rw [evalPart_none]
 exact wpAny_pure ⟨none,H,I,.none,h⟩
theorem po_some (h:PE X e te):PO X (some e) (tPart te):=by
 intro pins s σ H Q I hw
 rw [evalPart_some]
 refine thn (h pins s σ H _ I hw) fun u s1 ⟨x,H1,I1,r1,q1⟩=>?_
 obtain ⟨i,rfl,q⟩:=q1
 obtain ⟨t,rfl⟩:=r1
 exact ⟨some i,H1,I1,.int i t,q⟩
noncomputable def SlR (X:Cx) (r:V→Option Int→Option Int→Hp→VK→Prop):Prop:=
 ∀(pins:List (Addr × Obj)) (s:Shared) (σ:St) (H:Hp) (x:V) (v vl vu:Value) (lo hi:Option Int) (sl:Addr) (Q:VK),Inv X pins σ H s→RelV x v→s.heap.IsSliceOf sl vl vu .none→IsPart vl lo→IsPart vu hi→r x lo hi H Q→
  ∃T id,typeLookup (.type T) "__getitem__"=pure (some (.builtin id))∧s.TypeIs v T∧wpAny (model X.prog X.w) X.A (getItem v (.ref sl)) (EP X pins σ Q) X.xe s
noncomputable def tSl (r:V→Option Int→Option Int→Hp→VK→Prop) (te:TE) (tl th:TO):TE:=fun σ H Q=>te σ H fun x H1=>tl σ H1 fun l H2=>th σ H2 fun u H3=>r x l u H3 Q
theorem pe_slice {r:V→Option Int→Option Int→Hp→VK→Prop} (hr:SlR X r) (he:PE X e te) (hl:PO X lo tl) (hu:PO X hi th):PE X (.Subscript e (.Slice lo hi none p2) pos) (tSl r te tl th):=by
 intro pins s σ H Q I h
 refine Subscript_ (thn (he pins s σ H _ I h) fun v s1 ⟨x,H1,I1,r1,q1⟩=>?_)
 refine wpAny_Slice (thn (hl pins s1 σ H1 _ I1 q1) fun vl s2 ⟨l,H2,I2,pl,q2⟩=>thn (hu pins s2 σ H2 _ I2 q2) fun vu s3 ⟨u,H3,I3,pu,q3⟩=>?_)
 rw [evalPart_none]
 refine wpAny_pure ?_
 have I4:Inv X pins σ H3 {s3 with heap:=s3.heap.push {cls:=.type "slice",data:=.fields #[vl,vu,.none]}}:=I3.kept (t':=s3.toks) fun b ob q=>Heap.get?_push_of_some _ q
 obtain ⟨T,id,hT,ht,hg⟩:=hr pins {s3 with heap:=s3.heap.push {cls:=.type "slice",data:=.fields #[vl,vu,.none]}} σ H3 x v vl vu l u s3.heap.objs.size Q I4 r1 (Heap.IsSliceOf.new ..) pl pu q3
 show wpAny (model X.prog X.w) X.A (subscriptTail e (.Slice lo hi none p2) v (.ref s3.heap.objs.size)) (EP X pins σ Q) X.xe {s3 with heap:=s3.heap.push {cls:=.type "slice",data:=.fields #[vl,vu,.none]}}
 exact tail_any (ops:=[.ref s3.heap.objs.size,v]) ht hT hg (by with_unfolding_all rfl)
noncomputable def cutV (xs:List V) (lo hi:Option Int):List V:=(xs.drop (HT.sIx xs.length 0 lo)).take (HT.sIx xs.length xs.length hi - HT.sIx xs.length 0 lo)
theorem cutV_length (xs:List V) (lo hi:Option Int):(cutV xs lo hi).length≤xs.length:=by
 unfold cutV
 rw [List.length_take,List.length_drop]
 omega
end
open PySem PySem.Spec PyProof.Rows
noncomputable def ixN (n:Nat) (i:Int):Option Nat:=if 0≤i then (if i < n then some i.toNat else none) else if -(n:Int)≤i then some (i+n).toNat else none
noncomputable def atI {α:Type} (xs:List α) (i:Int):Option α:=(ixN xs.length i).bind fun j=>xs[j]?
theorem ixN_seq {n:Nat} {i:Int} {j:Nat} (h:ixN n i=some j):seqIndex? i n=some j∧j < n∧-(n:Int)≤i∧i < n:=by
 unfold ixN at h
 by_cases h0:0≤i
 ·rw [if_pos h0] at h
  by_cases h1:i < n
  ·rw [if_pos h1] at h
   have e:i.toNat=j:=Option.some.inj h
   exact ⟨by rw [seqIndex_of h0 h1,e],by omega,by omega,h1⟩
  ·rw [if_neg h1] at h;cases h
 ·rw [if_neg h0] at h
  by_cases h1:-(n:Int)≤i
  ·rw [if_pos h1] at h
   have e:(i+n).toNat=j:=Option.some.inj h
   exact ⟨by rw [seqIndex_neg (by omega) h1,e],by omega,h1,by omega⟩
  ·rw [if_neg h1] at h;cases h
theorem atI_get {α:Type} {xs:List α} {i:Int} {v:α} (h:atI xs i=some v):∃j,seqIndex? i xs.length=some j∧xs[j]?=some v∧j < xs.length∧-(xs.length:Int)≤i∧i < xs.length:=by
 unfold atI at h
 cases e:ixN xs.length i with
 | none=>rw [e] at h;cases h
 | some j=>
  rw [e] at h
  obtain ⟨h1,h2,h3,h4⟩:=ixN_seq e
  exact ⟨j,h1,h,h2,h3,h4⟩
theorem atI_nat {α:Type} {xs:List α} {j:Nat} {v:α} (h:xs[j]?=some v):atI xs (j:Int)=some v:=by
 have hj:j < xs.length:=(List.getElem?_eq_some_iff.mp h).1
 have e:ixN xs.length (j:Int)=some j:=by
  unfold ixN
  rw [if_pos (by omega),if_pos (by omega)];simp
 unfold atI;rw [e];exact h
noncomputable def PlainIx (b:Expr):Prop:=∀o i,subscripted b false o i=operate [o,i] (getItem o i)
noncomputable def IxR (X:Cx) (r:R2):Prop:=
 ∀(value slice:Expr) (pins:List (Addr × Obj)) (s:Shared) (σ:St) (H:Hp) (x y:V) (v u:Value) (Q:VK),Inv X pins σ H s→RelV x v→RelV y u→r x y H Q→
  subscripted slice false v u=operate [v,u] (getItem v u)→wpAny (model X.prog X.w) X.A (subscriptTail value slice v u) (EP X pins σ Q) X.xe s
noncomputable def MtR (X:Cx) (id:String) (r:V→List V→Hp→VK→Prop):Prop:=
 ∀(pins:List (Addr × Obj)) (s:Shared) (σ:St) (H:Hp) (x:V) (xs:List V) (v:Value) (us:List Value) (Q:VK),Inv X pins σ H s→RelV x v→Vals xs us→r x xs H Q→
  wpAny (model X.prog X.w) X.A (call (.builtin id) (v::us)) (EP X pins σ Q) X.xe s
section
variable {X:Cx} {a b:Expr} {ta tb:TE} {pos:Pos}
theorem pe_ix {r:R2} (hr:IxR X r) (ha:PE X a ta) (hb:PE X b tb) (hs:PlainIx b):PE X (.Subscript a b pos) (tOp r ta tb):=by
 intro pins s σ H Q I h
 exact Subscript_ (binT ha hb I h fun v u s2 x y H2 I2 rx ry q=>hr a b pins s2 σ H2 x y v u Q I2 rx ry q (hs _ _))
noncomputable def rIxL (K:PySem.W.Frag):R2:=fun x y H Q=>∃p xs i v,x=.ref p∧y=.int i∧SqL K H p xs∧atI xs i=some v∧Q v H
noncomputable def rIxT (K:PySem.W.Frag):R2:=fun x y H Q=>∃p xs i v,x=.ref p∧y=.int i∧SqT K H p xs∧atI xs i=some v∧Q v H
noncomputable def rIxS:R2:=fun x y H Q=>∃z i c,x=.str z∧y=.int i∧z.length≤sizeLine∧atI z.cps.toList i=some c∧Q (.str ⟨#[c]⟩) H
theorem ix_list:IxR X (rIxL X.K):=by
 intro value slice pins s σ H x y v u Q I rx ry h hs
 obtain ⟨p,xs,i,z,rfl,rfl,hq,he,q⟩:=h
 cases rx
 obtain ⟨t,rfl⟩:=ry
 obtain ⟨its,r,pl,hz⟩:=I.list hq
 obtain ⟨j,h1,h2,h3,h4,h5⟩:=atI_get he
 obtain ⟨w,ew,rw'⟩:=r.get h2
 have hl:=r.length
 have hn:=line63
 have fin:EP X pins σ Q w s:=⟨z,H,I,rw',q⟩
 by_cases h0:0≤i
 ·have hj:i.toNat=j:=by
   rw [seqIndex_of h0 h5] at h1
   exact Option.some.inj h1
  exact item_listR pl.isList h0 (by omega) (by rw [hj];simpa using ew) fin hs
 ·have hj:(i+(its.toArray.size:Int)).toNat=j:=by
   rw [seqIndex_neg (by omega) h4] at h1
   rw [List.size_toArray,←hl]
   exact Option.some.inj h1
  exact subscriptTail_builtinR (x:=w) pl.isList.typeIs slot_list_getitem.lookup
   (wpAny_getItem_list_neg (Q:=fun r s'=>r=w∧EP X pins σ Q r s') pl.isList (by omega) (by rw [List.size_toArray] <;> omega) (by omega) (by rw [hj];simpa using ew) ⟨rfl,fin⟩) hs
theorem ix_tup:IxR X (rIxT X.K):=by
 intro value slice pins s σ H x y v u Q I rx ry h hs
 obtain ⟨p,xs,i,z,rfl,rfl,hq,he,q⟩:=h
 cases rx
 obtain ⟨t,rfl⟩:=ry
 obtain ⟨its,r,pl,hz⟩:=I.tuple hq
 obtain ⟨j,h1,h2,h3,h4,h5⟩:=atI_get he
 obtain ⟨w,ew,rw'⟩:=r.get h2
 have hl:=r.length
 have hn:=line63
 have fin:EP X pins σ Q w s:=⟨z,H,I,rw',q⟩
 exact subscriptTail_builtinR (x:=w) pl.typeIs slot_tuple_getitem.lookup
  (getItem_tuple (j:=j) (Q:=fun r s'=>r=w∧EP X pins σ Q r s') pl (by omega) (by omega) (by rw [List.size_toArray,←hl];exact h1) (by simpa using ew) ⟨rfl,fin⟩) hs
theorem ix_str:IxR X rIxS:=by
 intro value slice pins s σ H x y v u Q I rx ry h hs
 obtain ⟨z,i,c,rfl,rfl,hz,he,q⟩:=h
 obtain ⟨t,rfl⟩:=rx
 obtain ⟨t',rfl⟩:=ry
 obtain ⟨j,h1,h2,h3,h4,h5⟩:=atI_get he
 have hl:z.cps.toList.length=z.length:=by simp [Str.length]
 rw [hl] at h1 h4 h5
 have hn:=line63
 exact tail_any (typeIs_str s z t) slot_str_getitem.lookup (getItem_str (c:=c) (by
  have e1:decide (i < -(2 ^ 63:Int))=false:=decide_eq_false (by omega)
  have e2:decide (i ≥ 2 ^ 63)=false:=decide_eq_false (by omega)
  rw [e1,e2,Bool.or_false]) (by rw [h1];simpa using h2) ⟨.str ⟨#[c]⟩,H,I.tok _,⟨_,rfl⟩,q⟩) hs
theorem slice_bounds (lo hi:Option Int) (n:Nat):(sliceBounds lo hi none n).1=((HT.sIx n 0 lo:Nat):Int)∧(sliceBounds lo hi none n).2.1=((HT.sIx n n hi:Nat):Int)∧(sliceBounds lo hi none n).2.2=1:=by
 refine ⟨?_,?_,rfl⟩
 ·cases lo with
  | none=>simp [sliceBounds,HT.sIx]
  | some i=>
   simp only [sliceBounds,HT.sIx,Option.getD_none,show (1:Int) > 0 by decide,if_true]
   by_cases h:i < 0
   ·simp only [h,if_true] <;> omega
   ·simp only [h,if_false] <;> omega
 ·cases hi with
  | none=>simp [sliceBounds,HT.sIx]
  | some i=>
   simp only [sliceBounds,HT.sIx,Option.getD_none,show (1:Int) > 0 by decide,if_true]
   by_cases h:i < 0
   ·simp only [h,if_true] <;> omega
   ·simp only [h,if_false] <;> omega
theorem slicePick_cut (its:List Value) (lo hi:Option Int):slicePick its.toArray lo hi none=((its.drop (HT.sIx its.length 0 lo)).take (HT.sIx its.length its.length hi - HT.sIx its.length 0 lo)).toArray:=by
 obtain ⟨h1,h2,h3⟩:=slice_bounds lo hi its.toArray.size
 unfold slicePick
 rw [h1,h2,h3]
 simp only [sliceRange_one,pick_run,List.size_toArray] <;> rfl
noncomputable def rSlL (K:PySem.W.Frag):V→Option Int→Option Int→Hp→VK→Prop:=fun x lo hi H Q=>∃a xs,x=.ref a∧SqL K H a xs∧∀p,H p=none→Q (.ref p) (upd H p (.lst (cutV xs lo hi)))
theorem sl_list:SlR X (rSlL X.K):=by
 intro pins s σ H x v vl vu lo hi sl Q I rx hs pl pu h
 obtain ⟨a,xs,rfl,hx,q⟩:=h
 cases rx
 obtain ⟨its,r,ht,hz⟩:=I.list hx
 have hlen:=r.length
 refine ⟨"list",_,slot_list_getitem.lookup,ht.isList.typeIs,?_⟩
 refine wpAny_getItem_list_slice ht.isList hs pl pu .none (by simp) ?_ (by rw [List.size_toArray] <;> omega)
 rw [slicePick_cut,←hlen]
 refine ⟨.ref s.heap.objs.size,_,I.laid (t':=s.toks) (o:=.lst (cutV xs lo hi)) (fun b ob q=>Heap.get?_push_of_some _ q) (Nat.le_refl _) ?_,rfl,q _ (I.hok.fresh (Nat.le_refl _))⟩
 exact ⟨Nat.le_trans (cutV_length xs lo hi) hz,_,0,(r.drop (HT.sIx xs.length 0 lo)).take (HT.sIx xs.length xs.length hi - HT.sIx xs.length 0 lo),Heap.get?_push_size _ rfl⟩
noncomputable def flatV:V→Bool
 | .non=>true
 | .bl _=>true
 | .int _=>true
 | .str _=>true
 | _=>false
noncomputable def eqV:V→V→Bool
 | .non,.non=>true
 | .bl a,.bl b=>a==b
 | .bl a,.int b=>(if a then 1 else 0)==b
 | .int a,.bl b=>a==(if b then 1 else 0)
 | .int a,.int b=>a==b
 | .str a,.str b=>a==b
 | _,_=>false
theorem eqAt_V {A:Around} {s:Shared} {y x:V} {u v:Value} (ry:RelV y u) (rx:RelV x v) (fy:flatV y=true) (fx:flatV x=true):SeqAt.EqAt A s u v (eqV y x):=by
 cases y with
 | non=>
  cases ry
  cases x with
  | non=>cases rx;exact SeqAt.EqAt.same _
  | bl b=>cases rx;exact SeqAt.EqAt.none_bool b
  | int b=>obtain ⟨t,rfl⟩:=rx;exact SeqAt.EqAt.none_int b t
  | str b=>obtain ⟨t,rfl⟩:=rx;exact SeqAt.EqAt.none_str b t
  | _=>exact absurd (show false=true from fx) Bool.false_ne_true
 | bl a=>
  cases ry
  cases x with
  | non=>cases rx;exact SeqAt.EqAt.bool_none a
  | bl b=>cases rx;exact SeqAt.EqAt.bool_bool a b
  | int b=>obtain ⟨t,rfl⟩:=rx;exact SeqAt.EqAt.bool_int a b t
  | str b=>obtain ⟨t,rfl⟩:=rx;exact SeqAt.EqAt.bool_str a b t
  | _=>exact absurd (show false=true from fx) Bool.false_ne_true
 | int a=>
  obtain ⟨t',rfl⟩:=ry
  cases x with
  | non=>cases rx;exact SeqAt.EqAt.int_none a t'
  | bl b=>cases rx;exact SeqAt.EqAt.int_bool a t' b
  | int b=>obtain ⟨t,rfl⟩:=rx;exact SeqAt.EqAt.int_int a t' b t
  | str b=>obtain ⟨t,rfl⟩:=rx;exact SeqAt.EqAt.int_str a t' b t
  | _=>exact absurd (show false=true from fx) Bool.false_ne_true
 | str a=>
  obtain ⟨t',rfl⟩:=ry
  cases x with
  | non=>cases rx;exact SeqAt.EqAt.str_none a t'
  | bl b=>cases rx;exact SeqAt.EqAt.str_bool a t' b
  | int b=>obtain ⟨t,rfl⟩:=rx;exact SeqAt.EqAt.str_int a t' b t
  | str b=>obtain ⟨t,rfl⟩:=rx;exact SeqAt.EqAt.str_str a t' b t
  | _=>exact absurd (show false=true from fx) Bool.false_ne_true
 | _=>exact absurd (show false=true from fy) Bool.false_ne_true
noncomputable def eqU (x:V) (u:Value):Bool:=match u with
 | .none=>eqV .non x
 | .bool b=>eqV (.bl b) x
 | .int i _=>eqV (.int i) x
 | .str z _=>eqV (.str z) x
 | _=>false
theorem eqU_of {x y:V} {u:Value} (r:RelV y u) (f:flatV y=true):eqU x u=eqV y x:=by
 cases y with
 | non=>cases r;rfl
 | bl b=>cases r;rfl
 | int i=>obtain ⟨t,rfl⟩:=r;rfl
 | str z=>obtain ⟨t,rfl⟩:=r;rfl
 | _=>exact absurd (show false=true from f) Bool.false_ne_true
theorem any_eqU {x:V}:∀{xs:List V} {us:List Value},Vals xs us→xs.all flatV=true→us.any (eqU x)=xs.any fun y=>eqV y x
 | _,_,.nil,_=>rfl
 | y::xs,u::us,.cons r t,f=>by
  rw [List.all_cons,Bool.and_eq_true] at f
  rw [List.any_cons,List.any_cons,eqU_of r f.1,any_eqU t f.2]
theorem mem_eqAt {A:Around} {s:Shared} {x:V} {v:Value} (rx:RelV x v) (fx:flatV x=true):∀{xs:List V} {us:List Value},Vals xs us→xs.all flatV=true→∀u∈us,SeqAt.EqAt A s u v (eqU x u)
 | _,_,.nil,_=>fun u hu=>by cases hu
 | y::xs,u::us,.cons r t,f=>fun u' hu=>by
  rw [List.all_cons,Bool.and_eq_true] at f
  rcases List.mem_cons.mp hu with rfl | hu
  ·rw [eqU_of r f.1];exact eqAt_V r rx f.1 fx
  ·exact mem_eqAt rx fx t f.2 u' hu
noncomputable def inV (x:V) (xs:List V):Bool:=xs.any fun y=>eqV y x
noncomputable def rIn (K:PySem.W.Frag) (neg:Bool):R2:=fun x y H Q=>∃p xs,y=.ref p∧(SqL K H p xs∨SqT K H p xs)∧flatV x=true∧xs.all flatV=true∧Q (.bl (if neg then !inV x xs else inV x xs)) H
theorem op_in_seq:OpR X (compareOp .In) (rIn X.K false):=by
 intro pins s σ H x y v u Q I rx ry h
 obtain ⟨p,xs,rfl,hq,fx,fs,q⟩:=h
 cases ry
 rcases hq with hq | hq
 ·obtain ⟨its,r,pl,hz⟩:=I.list hq
  refine SeqAt.in_listAt (eqU x) pl.isList (fun w hw=>mem_eqAt rx fx r fs w (by simpa using hw)) ⟨.bl _,H,I,rfl,?_⟩
  rw [show its.toArray.any (eqU x)=its.any (eqU x) by simp,any_eqU r fs]
  exact q
 ·obtain ⟨its,r,pl,hz⟩:=I.tuple hq
  refine SeqAt.in_tupleAt (eqU x) pl (fun w hw=>mem_eqAt rx fx r fs w (by simpa using hw)) ⟨.bl _,H,I,rfl,?_⟩
  rw [show its.toArray.any (eqU x)=its.any (eqU x) by simp,any_eqU r fs]
  exact q
theorem op_notIn_seq:OpR X (compareOp .NotIn) (rIn X.K true):=by
 intro pins s σ H x y v u Q I rx ry h
 obtain ⟨p,xs,rfl,hq,fx,fs,q⟩:=h
 cases ry
 rcases hq with hq | hq
 ·obtain ⟨its,r,pl,hz⟩:=I.list hq
  refine SeqAt.notIn_listAt (eqU x) pl.isList (fun w hw=>mem_eqAt rx fx r fs w (by simpa using hw)) ⟨.bl _,H,I,rfl,?_⟩
  rw [show its.toArray.any (eqU x)=its.any (eqU x) by simp,any_eqU r fs]
  exact q
 ·obtain ⟨its,r,pl,hz⟩:=I.tuple hq
  refine SeqAt.notIn_tupleAt (eqU x) pl (fun w hw=>mem_eqAt rx fx r fs w (by simpa using hw)) ⟨.bl _,H,I,rfl,?_⟩
  rw [show its.toArray.any (eqU x)=its.any (eqU x) by simp,any_eqU r fs]
  exact q
theorem call_len_seq:CallR X (.builtin "len") (fun xs H Q=>∃p ys,xs=[.ref p]∧(SqL X.K H p ys∨SqT X.K H p ys)∧Q (.int ys.length) H):=by
 intro pins s σ H xs us Q I r h
 obtain ⟨p,ys,rfl,hq,q⟩:=h
 obtain ⟨u,rfl,rx⟩:=vals1 r
 cases rx
 have hn:=line63
 rcases hq with hq | hq
 ·obtain ⟨its,r',pl,hz⟩:=I.list hq
  have hlen:=r'.length
  exact Calls.call_len_list pl.isList (by simp only [List.size_toArray] <;> omega) ⟨.int ys.length,H,I.tok _,⟨s.toks+1,by rw [List.size_toArray,hlen]⟩,q⟩
 ·obtain ⟨its,r',pl,hz⟩:=I.tuple hq
  have hlen:=r'.length
  exact len_tuple pl (by simp only [List.size_toArray] <;> omega) ⟨.int ys.length,H,I.tok _,⟨s.toks+1,by rw [List.size_toArray,hlen]⟩,q⟩
theorem call_len_str:CallR X (.builtin "len") (fun xs H Q=>∃z,xs=[.str z]∧z.length≤sizeLine∧Q (.int z.length) H):=by
 intro pins s σ H xs us Q I r h
 obtain ⟨z,rfl,hz,q⟩:=h
 obtain ⟨u,rfl,t,rfl⟩:=vals1 r
 have hn:=line63
 exact len_str (by omega) ⟨.int z.length,H,I.tok _,⟨_,rfl⟩,q⟩
theorem call_list_of:CallR X (.type "list") (fun xs H Q=>∃p ys,xs=[.ref p]∧(SqL X.K H p ys∨SqT X.K H p ys)∧∀l,H l=none→Q (.ref l) (upd H l (.lst ys))):=by
 intro pins s σ H xs us Q I r h
 obtain ⟨p,ys,rfl,hq,q⟩:=h
 obtain ⟨u,rfl,rx⟩:=vals1 r
 cases rx
 have fin:∀(its:List Value),Vals ys its→ys.length≤sizeLine→∀(h':Heap) (c':Nat),(∀b o',s.heap.get? b=some o'→h'.get? b=some o')→
   h'.get? s.heap.objs.size=some {cls:=.type "list",dict:=none,data:=.seq its.toArray c',slots:=#[]}→EP X pins σ Q (.ref s.heap.objs.size) {s with heap:=h'}:=fun its r' hz h' c' kp e=>
  ⟨.ref s.heap.objs.size,_,I.laid (t':=s.toks) kp (Nat.le_refl _) (show ObjOk X.prog X.w _ h' _ (.lst ys) from ⟨hz,its,c',r',e⟩),rfl,q _ (I.hok.fresh (Nat.le_refl _))⟩
 rcases hq with hq | hq
 ·obtain ⟨its,r',pl,hz⟩:=I.list hq
  have hlen:=r'.length
  obtain ⟨o,ho,hc,n,hd⟩:=pl.isList
  exact call_list_seq p (.inl rfl) ho hc hd (fun h' c' kp e=>fin its r' hz h' c' kp e) (by simp only [List.size_toArray] <;> omega)
 ·obtain ⟨its,r',pl,hz⟩:=I.tuple hq
  have hlen:=r'.length
  obtain ⟨o,ho,hc,n,hd⟩:=pl
  exact call_list_seq p (.inr rfl) ho hc hd (fun h' c' kp e=>fin its r' hz h' c' kp e) (by simp only [List.size_toArray] <;> omega)
theorem call_tuple_of:CallR X (.type "tuple") (fun xs H Q=>∃p ys,xs=[.ref p]∧((SqL X.K H p ys∧∀l,H l=none→Q (.ref l) (upd H l (.tup ys)))∨(SqT X.K H p ys∧Q (.ref p) H))):=by
 intro pins s σ H xs us Q I r h
 obtain ⟨p,ys,rfl,h⟩:=h
 obtain ⟨u,rfl,rx⟩:=vals1 r
 cases rx
 rcases h with ⟨hq,q⟩ | ⟨hq,q⟩
 ·obtain ⟨its,r',pl,hz⟩:=I.list hq
  have hlen:=r'.length
  refine call_tuple_list pl.isList (fun h' kp=>?_) (by simp only [List.size_toArray] <;> omega)
  have I1:Inv X pins σ H {s with heap:=h'}:=I.kept (t':=s.toks) kp
  have I2:Inv X pins σ (upd H h'.objs.size (.tup ys)) {s with heap:=h'.push {cls:=.type "tuple",data:=.seq its.toArray}}:=
   I1.laid (t':=s.toks) (fun b o e=>Heap.get?_push_of_some _ e) (Nat.le_refl _) (show ObjOk X.prog X.w _ _ _ (.tup ys) from ⟨hz,its,r',IsTup.new _ _⟩)
  exact ⟨.ref h'.objs.size,_,I2,rfl,q _ (I1.hok.fresh (Nat.le_refl _))⟩
 ·obtain ⟨its,r',pl,hz⟩:=I.tuple hq
  exact call_tuple_same pl ⟨.ref p,H,I,rfl,q⟩
noncomputable def tyV (K:PySem.W.Frag) (T:String) (x:V) (H:Hp):Prop:=match x with
 | .str _=>T="str"
 | .int _=>T="int"
 | .ref p=>(T="list"∧∃xs,SqL K H p xs)∨(T="tuple"∧∃o,K.lookup p=some o∧o.cls=.type "tuple"∧o.dict=none)∨
   (T="dict"∧((∃kvs,H p=some (.dK kvs))∨∃kvs,H p=some (.dT kvs)))∨(T="set"∧∃S n,H p=some (.set S n))
 | _=>False
theorem tyV_is {pins:List (Addr × Obj)} {σ:St} {H:Hp} {s:Shared} {T:String} {x:V} {v:Value} (I:Inv X pins σ H s) (r:RelV x v) (ty:tyV X.K T x H):
  s.TypeIs v T∧∀a,v=.ref a→∃ob,s.heap.get? a=some ob∧ob.dict=none:=by
 cases x with
 | str z=>
  obtain ⟨t,rfl⟩:=r
  cases (show T="str" from ty)
  exact ⟨typeIs_str s z t,fun _ e=>nomatch e⟩
 | int i=>
  obtain ⟨t,rfl⟩:=r
  cases (show T="int" from ty)
  exact ⟨typeIs_int s i t,fun _ e=>nomatch e⟩
 | ref p=>
  cases r
  rcases ty with ⟨rfl,xs,hq⟩ | ⟨rfl,o,hk,hc,hd⟩ | ⟨rfl,hk⟩ | ⟨rfl,S,n,hk⟩
  ·obtain ⟨its,_,pl,_⟩:=I.list hq
   refine ⟨pl.isList.typeIs,fun a e=>?_⟩
   cases e
   obtain ⟨o,n,e,c,hd,_⟩:=pl
   exact ⟨o,e,hd⟩
  ·refine ⟨⟨o,I.kIn p o hk,hc⟩,fun a e=>?_⟩
   cases e
   exact ⟨o,I.kIn _ o hk,hd⟩
  ·have z:∃o,s.heap.get? p=some o∧o.ExactDict:=by
    rcases hk with ⟨kvs,hk⟩ | ⟨kvs,hk⟩
    ·obtain ⟨_,_,_,_,o,_,_,e,ex,_⟩:=I.hok p _ hk
     exact ⟨o,e,ex⟩
    ·obtain ⟨_,_,_,_,o,_,_,e,ex,_⟩:=I.hok p _ hk
     exact ⟨o,e,ex⟩
   obtain ⟨o,e,ex⟩:=z
   refine ⟨⟨o,e,ex.1⟩,fun a e2=>?_⟩
   cases e2
   exact ⟨o,e,ex.2.1⟩
  ·obtain ⟨o,_,_,_,e,ex,_⟩:=I.hok p _ hk
   refine ⟨⟨o,e,ex.1⟩,fun a e2=>?_⟩
   cases e2
   exact ⟨o,e,ex.2.1⟩
 | _=>exact False.elim ty
noncomputable def tBM (K:PySem.W.Frag) (T:String) (r:V→List V→Hp→VK→Prop) (to:TE) (t:TA):TE:=fun σ H Q=>to σ H fun x H1=>tyV K T x H1∧t σ H1 fun xs H2=>r x xs H2 Q
variable {o e:Expr} {es:List Expr} {to:TE} {t:TA} {name:Str} {apos cpos:Pos} {T id:String} {r:V→List V→Hp→VK→Prop}
theorem pe_bm (pa:PlainAttrs T) (slot:Slot T name id) (hty:typeOf (.builtin id)=pure (.type "method_descriptor")) (hm:MtR X id r) (ho:PE X o to) (ha:PA X (e::es) t)
  (hbase:attributeBase o name X.env (eval o X.env)=eval o X.env:=by rfl)
  (hfew:((backTo cpos (starEach (e::es) X.env)).all (fun x=>!x.1) && (backToKw cpos (keywordEach [] X.env)).all (fun x=>x.1.isSome)
   && decide ((e::es).length+([]:List Keyword).length+(if ([]:List Keyword).isEmpty then 0 else 1) < 30))=true:=by rfl)
  (hline:(apos.endLine==cpos.line)=true:=by rfl) (hs:starEach (e::es) X.env=(false,eval e X.env)::starEach es X.env:=by rfl) (hplain:(backTo cpos (starEach es X.env)).any (·.1)=false:=by rfl):
  PE X (.Call (.Attribute o name apos) (e::es) [] cpos) (tBM X.K T r to t):=by
 intro pins s σ H Q I h
 refine wpAny_Call_method_late hbase hfew hline rfl (thn (ho pins s σ H _ I h) fun v s1 ⟨x,H1,I1,r1,ty,q1⟩=>?_)
 obtain ⟨h1,h2⟩:=tyV_is I1 r1 ty
 refine ⟨T,id,pa,slot,hty,h1,h2,?_⟩
 have hA:=ha cpos pins s1 σ H1 _ I1 q1
 rw [hs] at hA ⊢
 refine Calls.callWith_builtin (by show (false || (backTo cpos (starEach es X.env)).any (·.1))=false;rw [hplain] <;> rfl) (Calls.evalArgs_plain ?_)
 exact thn hA fun us s2 ⟨vs,H2,I2,r2,q2⟩=>hm pins s2 σ H2 x vs v us Q I2 r1 r2 q2
end
open PySem PySem.Spec PyProof.Rows
noncomputable def MtM (X:Cx) (id:String) (r:V→List V→Hp→VK→Prop):Prop:=
 ∀(pins:List (Addr × Obj)) (s:Shared) (σ:St) (H:Hp) (x:V) (xs:List V) (v:Value) (us:List Value) (Q:VK),Inv X pins σ H s→RelV x v→Vals xs us→r x xs H Q→
  wpAny (model X.prog X.w) X.A (call (.builtin id) (v::us)) (EP X pins σ Q) X.xe s
theorem Vals.one:∀{x:V} {us:List Value},Vals [x] us→∃u,us=[u]∧RelV x u
 | _,_,.cons r .nil=>⟨_,rfl,r⟩
theorem Vals.rep {xs:List V} {us:List Value} (h:Vals xs us):∀k:Nat,Vals (List.replicate k xs).flatten (List.replicate k us).flatten
 | 0=>.nil
 | k+1=>by
  rw [List.replicate_succ,List.replicate_succ,List.flatten_cons,List.flatten_cons]
  exact Vals.append h (Vals.rep h k)
theorem foldl_rep (its:List Value):∀(k:Nat) (acc:List Value),
  List.foldl (fun x1 x2=>x1++x2) acc.toArray (List.replicate k its.toArray)=(acc++(List.replicate k its).flatten).toArray
 | 0,acc=>by simp
 | k+1,acc=>by
  have e:acc.toArray++its.toArray=(acc++its).toArray:=by simp
  have e2:(acc++its)++(List.replicate k its).flatten=acc++(List.replicate (k+1) its).flatten:=by
   rw [List.replicate_succ,List.flatten_cons,List.append_assoc]
  rw [←e2,←foldl_rep its k (acc++its),←e,List.replicate_succ,List.foldl_cons]
section
variable {X:Cx} {pins:List (Addr × Obj)} {σ:St} {H:Hp} {s:Shared} {l b:Addr} {xs ys zs:List V}
theorem Inv.lset {its its':List Value} {n:Nat} {f:Array Value→Array Value} {t':Nat} (I:Inv X pins σ H s) (hH:H l=some (.lst xs))
  (e:s.heap.get? l=some {cls:=.type "list",data:=.seq its.toArray n}) (hf:f its.toArray=its'.toArray) (hv:Vals ys its') (hz:ys.length≤sizeLine):
  Inv X pins σ (upd H l (.lst ys)) {s with heap:=s.heap.update l (Obj.mapSeq f),toks:=t'}:=by
 have q:=PySem.IsL.update e f
 rw [hf] at q
 refine I.write (x:=l) (e:=l) (by rw [hH];exact trivial) (.inl rfl) (fun b' u hb hu=>(Heap.get?_update_other s.heap (Obj.mapSeq f) (Ne.symm hb)).trans hu) ⟨_,q⟩ ?_
 exact ⟨hz,its',_,hv,q⟩
theorem Inv.lnew {its:List Value} {t':Nat} (I:Inv X pins σ H s) (hv:Vals ys its) (hz:ys.length≤sizeLine):
  Inv X pins σ (upd H s.heap.objs.size (.lst ys)) {s with heap:=s.heap.push {cls:=.type "list",data:=.seq its.toArray},toks:=t'}:=
 I.laid (fun _ _ q=>Heap.get?_push_of_some _ q) (Nat.le_refl _) ⟨hz,its,0,hv,Heap.get?_push_size _ rfl⟩
theorem Inv.fresh (I:Inv X pins σ H s):H s.heap.objs.size=none:=I.hok.fresh (Nat.le_refl _)
theorem Inv.lstM (I:Inv X pins σ H s) (hH:H l=some (.lst xs)):xs.length≤sizeLine∧∃(its:List Value) (n:Nat),Vals xs its∧xs.length=its.length∧s.heap.get? l=some {cls:=.type "list",data:=.seq its.toArray n}:=by
 obtain ⟨z,its,n,r,e⟩:=I.hok l _ hH
 exact ⟨z,its,n,r,r.length,e⟩
theorem notLongL {n:Nat} (h:n≤sizeLine):Builtin.List.listTooLong n=false:=by
 unfold Builtin.List.listTooLong
 exact decide_eq_false (by omega)
end
section
variable {X:Cx}
noncomputable def rAppend:V→List V→Hp→VK→Prop:=fun x vs H Q=>∃l xs y,x=.ref l∧vs=[y]∧H l=some (.lst xs)∧xs.length < sizeLine∧Q .non (upd H l (.lst (xs++[y])))
theorem mt_append:MtM X "list.append" rAppend:=by
 intro pins s σ H x vs v us Q I rx rv h
 obtain ⟨l,xs,y,rfl,rfl,hH,hz,q⟩:=h
 cases rx
 obtain ⟨u,rfl,ru⟩:=rv.one
 obtain ⟨z,its,n,r,hl,e⟩:=I.lstM hH
 refine call_meets F.slot_list_append ⟨_,e,rfl⟩ F.entry_list_append (F.args_list_append_2 _ _) (PySem.list_append l its.toArray n u (by rw [List.size_toArray];omega)) ⟨e,?_⟩
 refine ⟨.non,_,I.lset (its':=its++[u]) hH e (by simp) (r.append (.cons ru .nil)) ?_,rfl,q⟩
 rw [List.length_append,List.length_singleton]
 omega
noncomputable def rExtend:V→List V→Hp→VK→Prop:=fun x vs H Q=>∃l b xs zs,x=.ref l∧vs=[.ref b]∧H l=some (.lst xs)∧H b=some (.lst zs)∧xs.length+zs.length≤sizeLine∧Q .non (upd H l (.lst (xs++zs)))
theorem mt_extend:MtM X "list.extend" rExtend:=by
 intro pins s σ H x vs v us Q I rx rv h
 obtain ⟨l,b,xs,zs,rfl,rfl,hH,hB,hz,q⟩:=h
 cases rx
 obtain ⟨u,rfl,ru⟩:=rv.one
 cases ru
 obtain ⟨z,its,n,r,hl,e⟩:=I.lstM hH
 obtain ⟨z2,its2,n2,r2,hl2,e2⟩:=I.lstM hB
 have hsz:its.toArray.size+its2.toArray.size≤sizeLine:=by rw [List.size_toArray,List.size_toArray];omega
 have hlong:¬(!its.toArray.isEmpty && Builtin.List.listTooLong (its.toArray.size+its2.toArray.size))=true:=by
  rw [notLongL hsz,Bool.and_false]
  exact Bool.false_ne_true
 refine call_meets F.slot_list_extend ⟨_,e,rfl⟩ F.entry_list_extend (F.args_list_extend_2 _ _)
  (AutoSeq1.list_extend_list_list_0 l its.toArray n b its2.toArray n2 hlong (by rw [List.size_toArray];omega) (by omega)) ⟨e,e2,?_⟩
 refine ⟨.non,_,I.lset (its':=its++its2) hH e (by simp) (r.append r2) ?_,rfl,q⟩
 rw [List.length_append]
 omega
noncomputable def rCat:R2:=fun x y H Q=>∃l b xs zs,x=.ref l∧y=.ref b∧H l=some (.lst xs)∧H b=some (.lst zs)∧xs.length+zs.length≤sizeLine∧∀p,H p=none→Q (.ref p) (upd H p (.lst (xs++zs)))
theorem op_cat:OpR X (binaryOp .Add) rCat:=by
 intro pins s σ H x y v u Q I rx ry h
 obtain ⟨l,b,xs,zs,rfl,rfl,hH,hB,hz,q⟩:=h
 cases rx
 cases ry
 obtain ⟨z,its,n,r,hl,e⟩:=I.lstM hH
 obtain ⟨z2,its2,n2,r2,hl2,e2⟩:=I.lstM hB
 refine PySem.P.add_list e e2 ?_ (by rw [List.size_toArray,List.size_toArray];omega)
 have ea:its.toArray++its2.toArray=(its++its2).toArray:=by simp
 rw [ea]
 exact ⟨.ref _,_,I.lnew (t':=s.toks) (r.append r2) (by rw [List.length_append];omega),rfl,q _ I.fresh⟩
noncomputable def rRep:R2:=fun x y H Q=>∃l k xs,x=.ref l∧y=.int k∧H l=some (.lst xs)∧-(2 ^ 63)≤k∧k < 2 ^ 63∧xs.length * k.toNat≤sizeLine∧
 ∀p,H p=none→Q (.ref p) (upd H p (.lst (List.replicate k.toNat xs).flatten))
theorem len_rep {α:Type} (xs:List α) (k:Nat):(List.replicate k xs).flatten.length=k * xs.length:=by
 induction k with
 | zero=>simp
 | succ k ih=>rw [List.replicate_succ,List.flatten_cons,List.length_append,ih,Nat.succ_mul,Nat.add_comm]
theorem op_rep:OpR X (binaryOp .Mult) rRep:=by
 intro pins s σ H x y v u Q I rx ry h
 obtain ⟨l,k,xs,rfl,rfl,hH,h1,h2,hz,q⟩:=h
 cases rx
 obtain ⟨t,rfl⟩:=ry
 obtain ⟨z,its,n,r,hl,e⟩:=I.lstM hH
 have hlen:its.toArray.size * k.toNat≤sizeLine:=by rw [List.size_toArray,←hl];exact hz
 have hcap:¬its.toArray.size * k.toNat > (2 ^ 63 - 1) / 8:=by
  have:(sizeLine:Nat)≤(2 ^ 63 - 1) / 8:=by decide
  omega
 have hfit:¬(!Builtin.List.listFitsIndex k)=true:=by
  rw [fitsIndex_both h1 h2]
  exact Bool.false_ne_true
 have hlong:¬Builtin.List.listTooLong (its.toArray.size * k.toNat)=true:=by
  rw [notLongL hlen]
  exact Bool.false_ne_true
 have hnew:List.foldl (fun x1 x2=>x1++x2) #[] (List.replicate (if its.toArray.isEmpty=true then 0 else k.toNat) its.toArray)=(List.replicate k.toNat its).flatten.toArray:=by
  have f0:∀m:Nat,List.foldl (fun x1 x2=>x1++x2) #[] (List.replicate m its.toArray)=(List.replicate m its).flatten.toArray:=fun m=>by
   have:=foldl_rep its m []
   rw [List.nil_append] at this
   exact this
  rw [f0]
  cases its with
  | nil=>simp
  | cons a r'=>rw [if_neg (by simp)]
 refine wpAny_binaryOp_repeat_ref (T:="list") (U:="int") (by decide) ⟨_,e,rfl⟩ (fun s'=>typeIs_int s' k t) noFill_list_mul F.fills_int_mul F.slot_int_rmul repeat_list F.slot_int_index.lookup
  (call_meets F.slot_int_rmul (typeIs_int s k t) F.entry_int_rmul (F.args_int_rmul_2 _ _) (int___rmul___int_list k t l its.toArray n)
   ⟨e,rfl,⟨_,e,rfl⟩,call_meets F.slot_list_mul ⟨_,e,rfl⟩ F.entry_list_mul (F.args_list_mul_2 _ _) (AutoListH.list___mul___list_int_3 l its.toArray n k t hfit hcap hlong) ⟨e,?_⟩⟩)
 rw [hnew]
 exact ⟨.ref _,_,I.lnew (t':=s.toks) (r.rep k.toNat) (by rw [len_rep,Nat.mul_comm];exact hz),rfl,q _ I.fresh⟩
end
end L2
namespace Att
open PySem PySem.W PySem.Calls PyProof.Rows
theorem ints_of_wellAll {P:Params} {h:Heap}:∀(ns:List Int) (vs:List Value),WellAll P h vs (ns.map WData.int)→IntsAre vs ns:=by
 intro ns
 induction ns with
 | nil=>
  intro vs w
  rw [List.map_nil] at w
  cases w
  exact .nil
 | cons n ns ih=>
  intro vs w
  rw [List.map_cons] at w
  cases w with
  | cons a b=>
   cases a
   exact .cons _ _ (ih _ b)
theorem script_of {l:OpenLaw} {n:Nat} (hn:l.most=some n) {P:Params} {h:Heap} {args:List WData} {vals:List Value}
  (hpre:l.row.toRowW.claim.pre args=true) (hwl:WellAll P h vals args):
  ∃a vs ns,vals=[Value.ref a]∧args=[WData.list (ns.map WData.int)]∧h.get? a=some {cls:=.type "list",data:=.seq vs.toArray}∧IntsAre vs ns∧ns.length≤n:=by
 have hsh:WShape.hasAll [] args [.list .int]=true:=(pre_splitW hpre).1
 have hc:l.pre.holds [] {args:=args}=true:=(pre_splitW hpre).2
 obtain ⟨d,r,rfl,h1,h2⟩:=hasAllW_cons hsh
 obtain rfl:=hasAllW_nil h2
 obtain ⟨xs,rfl,h3⟩:=hasW_list h1
 obtain ⟨ns,rfl⟩:=items_int h3
 have hlen:ns.length≤n:=by
  unfold OpenLaw.pre at hc
  have h4:(WTm.not (.lt (.lit (.int (n:Int))) (.len (.arg 0)))).holds [] {args:=[.list (ns.map .int)]}=true:=by
   have h4:=(holds_andW hc).1
   rw [hn] at h4
   exact h4
  have h5:=condW_of h4 (w_not (w_lt w_lit (w_len_list (w_arg rfl))))
  rw [List.length_map] at h5
  refine Nat.le_of_not_lt fun q=>?_
  have q':(n:Int) < ((ns.length:Nat):Int):=by omega
  first
   | (rw [decide_eq_true q'] at h5;exact absurd h5 (by decide))
   | (simp at h5;omega)
 cases hwl with
 | cons w1 w2=>
  cases w2
  cases w1 with
  | list ho hall=>exact ⟨_,_,ns,rfl,rfl,ho,ints_of_wellAll ns _ hall,hlen⟩
theorem post_true (l:OpenLaw) (args:List WData):l.row.toRowW.claim.post args (.bool true) args=true:=
 postW_of (r:=l.row.toRowW) (X:=(true==true))
  (show WShape.has [] (.bool true) .bool=true by first | rfl | decide | simp [WShape.has,WShape.arms,WShape.armsAll])
  (show (WTm.eq .res (.lit (.bool true))).value [] {args:=args,res:=some (.bool true),after:=args}=some (.bool (true==true)) from w_eq_bool (w_res rfl) w_lit) rfl
theorem attach_call {l:OpenLaw} {n:Nat} {q:Program} {loose:List Str} {XP:(Str→Option Value)→Heap→Prop} {YP:World→Heap→Prop} {d:DefRec}
  (hn:l.most=some n) (hdf:d.params.defaults=[])
  (call:∀(w:World) (s₀ s₁:Shared) (mg mb:Str→Option Value) (fa:Addr) (o:Obj) (pm cd doc:Value) (a:Addr) (vs:List Value) (ns:List Int),
   Ground q loose [] XP w s₀ mg mb s₁.heap→YP w s₁.heap→
   s₁.heap.get? fa=some o→o.data=.func (docDef d.name d.params d.body d.scope pm cd doc)→s₁.heap.CodeRec cd d.name→mg d.name=some (.ref fa)→
   s₁.heap.get? a=some {cls:=.type "list",data:=.seq vs.toArray}→IntsAre vs ns→ns.length≤n→s₁.gens=#[]→
   codeAny (model l.prog w) callerA (.call (.ref fa) ⟨[.ref a],[]⟩) (fun r s'=>r=.ok (.ret (.bool true))∧OldK s₁.heap s'.heap∧s'.os=s₁.os∧AllBare s'.gens) s₁):
  WalkO q loose XP YP l.row.toRowW d [] (fun f vs=>PySem.call f vs):=by
 intro w s₀ s₁ mg mb G Y fa o pm cd doc dV kV ho hd hcd hD hmg hg args vals as hpre hlay hrd hwl hlo
 obtain rfl:dV=.none:=Dflts.none hD hdf
 obtain rfl:kV=.none:=Dflts.noKw hD
 obtain ⟨a,vs,ns,rfl,rfl,hobj,hints,hlen⟩:=script_of hn hpre hwl
 refine enter_call (codeAny_mono (call w s₀ s₁ mg mb fa o pm cd doc a vs ns G Y ho (fd_plain hd) hcd hmg hobj hints hlen hg) fun r s' hq=>?_)
 obtain ⟨rfl,h2,h3,h4⟩:=hq
 exact ⟨.inl ⟨.bool true,.bool true,[],rfl,fun _=>rfl,.bool true,post_true l _,fun _=>⟨List.Pairwise.nil,fun _ hm=>(nomatch hm)⟩⟩,h2,h3,h4⟩
end Att
namespace L2
open PySem PySem.Spec PyProof.Rows
theorem vals_ints:∀{vs:List Value} {ns:List Int},IntsAre vs ns→Vals (ns.map V.int) vs
 | _,_,.nil=>.nil
 | _,_,.cons n t h=>.cons ⟨t,rfl⟩ (vals_ints h)
noncomputable def Only (H:Hp):Prop:=∀b,H b=none∨∃o xs,H b=some (.frz o (.lst xs))
theorem law_call {P:Program} {w:World} {K:PySem.W.Frag} {mg mb:Str→Option Value} {CX:CXT} {k:Nat} {fa a:Addr} {fd:FuncData} {x:Str} {sp:Sp} {s₁:Shared} {vs:List Value} {ns:List Int}
  (KX:K.In s₁.heap) (hns:s₁.heap.Ns mainGlobals mg) (hb:s₁.heap.Ns builtinsNs mb) (hbb:∀x:Str,x≠"__name__"→mb x=bootBuiltins x) (hlim:s₁.heap.NoLimit) (hg:s₁.gens=#[])
  (ha:s₁.heap.get? a=some {cls:=.type "list",data:=.seq vs.toArray}) (hi:IntsAre vs ns) (hl:ns.length≤sizeLine) (hr:Room k callerA)
  (F:∀base:Heap,K.In base→base.Ns mainGlobals mg→FnOk P w K mg base CX k fa fd [x] sp) (hbind:∀(s:Shared) (u:Value),BindsTo s fd ⟨[u],[]⟩ [(x,u)])
  (hsp:∀H:Hp,Only H→SqL K H a (ns.map V.int)→sp [.ref a] H (fun v _=>v=.bl true) fun _ _ _=>False)
  (hCX:∀H e s',CX [] H s₁ (fun _ _ _=>False) e s'→False):
  codeAny (model P w) callerA (.call (.ref fa) ⟨[.ref a],[]⟩) (fun r s'=>r=.ok (.ret (.bool true))∧OldK s₁.heap s'.heap∧s'.os=s₁.os∧AllBare s'.gens) s₁:=by
 have rv:=vals_ints hi
 have lenV:=hi.length
 have core:∀H:Hp,Only H→SqL K H a (ns.map V.int)→HOk P w H s₁.heap→(∀b,H b≠none→b=a)→(H a≠none→K.lookup a=none)→
   codeAny (model P w) callerA (.call (.ref fa) ⟨[.ref a],[]⟩) (fun r s'=>r=.ok (.ret (.bool true))∧OldK s₁.heap s'.heap∧s'.os=s₁.os∧AllBare s'.gens) s₁:=by
  intro H hO hS hok hA hK
  have base_of:∀{b:Addr} {o:Obj},s₁.heap.get? b=some o→H b=none→(hidT s₁.heap H).get? b=some o:=fun e n=>hidT_get e n
  have noA:∀{b:Addr} {o:Obj} {es:Array DictEntry} {ep:Nat},s₁.heap.get? b=some o→o.data=.dict es ep→H b=none:=fun {b o es ep} e d=>by
   cases q:H b with
   | none=>rfl
   | some u=>
    have e':b=a:=hA b (by rw [q];simp)
    subst e'
    rw [ha] at e;cases e
    have d':Data.seq vs.toArray _=Data.dict es ep:=d
    cases d'
  have nsK:∀{b:Addr} {m:Str→Option Value},s₁.heap.Ns b m→(hidT s₁.heap H).Ns b m:=fun {b m} ⟨o,es,ep,e,d,r⟩=>⟨o,es,ep,base_of e (noA e d),d,r⟩
  have hKb:K.In (hidT s₁.heap H):=fun b o e=>base_of (KX b o e) (by
   cases q:H b with
   | none=>rfl
   | some u=>
    have e':b=a:=hA b (by rw [q];simp)
    subst e'
    rw [hK (by rw [q];simp)] at e;cases e)
  have hM:Mod K mg (hidT s₁.heap H):=⟨hKb,nsK hns,⟨mb,nsK hb,hbb⟩,let ⟨mc,h1,h2⟩:=hlim;⟨mc,nsK h1,h2⟩⟩
  have e0:Env0 P w K mg (hidT s₁.heap H) callerA [] s₁ H:=⟨rfl,hM,fun b o e=>of_hidT e,Nat.le_of_eq (hidT_size _ _),trivial,fun b hb=>absurd (show b∈([]:List Addr) from hb) (by simp),hok,.of_eq hg⟩
  refine codeAny_mono ((F _ hKb (nsK hns)).run callerA [] s₁ H ⟨[.ref a],[]⟩ [.ref a] [.ref a] _ _ hr e0 (hbind s₁ (.ref a)) (.cons rfl .nil) (hsp H hO hS)) fun r s' h=>?_
  cases r with
  | error e=>exact (hCX H e s' h).elim
  | ok fl=>
   cases fl with
   | next=>exact False.elim h
   | brk=>exact False.elim h
   | cont=>exact False.elim h
   | ret u=>
    obtain ⟨v,H',os,bare,un,hok',r',q⟩:=h
    have q':v=.bl true:=q
    subst q'
    obtain rfl:u=Value.bool true:=r'
    refine ⟨rfl,OldK.of_keep fun b o e=>?_,os,bare⟩
    cases q:H b with
    | none=>exact un.keep b o e q (by intro z;exact absurd (show b∈([]:List Addr) from z) (by simp)) (by simp)
    | some u=>
     rcases hO b with z | ⟨ob,xs,z⟩
     ·rw [q] at z;cases z
     ·have z2:=un.frzs b ob _ z
      obtain ⟨e1,_⟩:=hok b _ z
      obtain ⟨e2,_⟩:=hok' b _ z2
      rw [e] at e1;cases e1
      exact e2
 cases hk:K.lookup a with
 | some o=>
  have e:=KX a o hk
  rw [ha] at e
  cases e
  refine core (fun _=>none) (fun _=>.inl rfl) (.inr ⟨_,vs.toArray,_,hk,rfl,rfl,rfl,by rw [List.size_toArray,lenV];exact hl,by simpa using rv⟩) (fun b u z=>by have z':(none:Option HO)=some u:=z;cases z') (fun b z=>absurd rfl z) fun z=>absurd rfl z
 | none=>
  refine core (fun b=>if b=a then some (.frz {cls:=.type "list",data:=.seq vs.toArray} (.lst (ns.map V.int))) else none) (fun b=>?_) (.inl (.inr ⟨{cls:=.type "list",data:=.seq vs.toArray},if_pos rfl⟩)) (fun b u z=>?_) (fun b z=>?_) fun _=>hk
  ·by_cases hb:b=a
   ·exact .inr ⟨_,_,if_pos hb⟩
   ·exact .inl (if_neg hb)
  ·by_cases hb:b=a
   ·have z':=(if_pos hb).symm.trans z
    cases z'
    subst hb
    exact ⟨ha,by rw [List.length_map];exact hl,vs,_,rv,ha⟩
   ·have z':=(if_neg hb).symm.trans z
    cases z'
  ·by_cases hb:b=a
   ·exact hb
   ·exact absurd (if_neg hb) z
noncomputable abbrev KOf {K:PySem.W.Frag} {h:Heap} (_:K.In h):PySem.W.Frag:=K
theorem walk_of {l:PySem.W.OpenLaw} {n k:Nat} {q:Program} {loose:List Str} {XP:(Str→Option Value)→Heap→Prop} {YP:World→Heap→Prop} {d:DefRec} {K:Params→PySem.W.Frag} {CX:World→CXT} {sp:World→Sp} {x:Str}
  (hn:l.most=some n) (hn2:n≤sizeLine) (hdf:d.params.defaults=[]) (hr:Room k callerA)
  (hY:∀(w:World) (h:Heap),YP w h→(K w.params).In h)
  (F:∀(w:World) (mg:Str→Option Value) (fa:Addr) (h:Heap),(K w.params).In h→h.Ns mainGlobals mg→mg d.name=some (.ref fa)→
   ∃fd:FuncData,(∀(s:Shared) (u:Value),BindsTo s fd ⟨[u],[]⟩ [(x,u)])∧
    ∀base:Heap,(K w.params).In base→base.Ns mainGlobals mg→FnOk l.prog w (K w.params) mg base (CX w) k fa fd [x] (sp w))
  (hsp:∀(w:World) (H:Hp) (a:Addr) (ns:List Int),ns.length≤n→Only H→SqL (K w.params) H a (ns.map V.int)→sp w [.ref a] H (fun v _=>v=.bl true) fun _ _ _=>False)
  (hCX:∀(w:World) (H:Hp) (s:Shared) (e:Value) (s':Shared),CX w [] H s (fun _ _ _=>False) e s'→False):
  PySem.W.WalkO q loose XP YP l.row.toRowW d [] (fun f vs=>PySem.call f vs):=by
 refine Att.attach_call hn hdf fun w s₀ s₁ mg mb fa o pm cd doc a vs ns G Y ho hd hcd hmg hobj hints hlen hg=>?_
 have KX:=hY w _ Y
 obtain ⟨fd,hb,hF⟩:=F w mg fa _ KX G.T.g hmg
 exact law_call KX G.T.g G.T.b G.T.builtins G.T.nolimit hg hobj hints (Nat.le_trans hlen hn2) hr hF hb (fun H hO hS=>hsp w H a ns hlen hO hS) fun H e s'=>hCX w H s₁ e s'
end L2
/- THE LAST THEOREM (shape;LID,My.* are yours):
 My.Adr:a structure of the addresses that your layer names (classes,functions);My.Txt K t:a structure (Prop) of the equations over K;
 My.txt_mk:{K} {implicit addresses ..} (e1:nsIn K mainGlobals "law"=some (some (.ref f))) (e2:K.lookup f=some ⟨oc,od,.func (fnOf "law" "law" params body scope dV kV doc pm an cdv ct),sl⟩) (e3:codeIn K cdv "law"=true) ..:∃t,My.Txt K t
set_option maxRecDepth 100000 in
set_option maxHeartbeats 0 in
theorem PySem.Challenge.cw_LID_holds : PySem.Challenge.rw_LID.Holds := by
 w_on;o_law;k_head;(case hw=>w_witness2)
 k_fill
 refine L2.walk_of (l:=PySem.Challenge.rw_LID) (n:=63) (k:=40) (x:="script") (CX:=fun w=>..) (sp:=fun _=>My.sp_law) rfl (by decide) rfl ⟨rfl,by decide,by decide⟩ (fun w h Y=>PySem.W.kIn_of Y) ?F ?S ?C
 case F=>
  intro w mg fa h KX G hmg
  have T:∃t,My.Txt (L2.KOf KX) t:=by
   dsimp only [L2.KOf] -- K must stand as «<heap const> w.params» for k_is
   refine' My.txt_mk ?e1 ?e2 ?e3 ..
   (case e1=>PySem.W.k_is) -- in the order:a name -> its address -> its object -> its parts
   (case e2=>PySem.W.k_is)
   ..
  obtain ⟨t,T⟩:=T
  have e0:=hmg.symm.trans (PySem.W.mg_of KX G T.law)
  cases e0 -- fa is the law's own address
  exact ⟨_,fun s u=>.of_eq rfl,fun base kb nb=>My.law_fn T kb nb⟩ -- if «.of_eq rfl» comes too early:refine' ⟨_,?b,fun base kb nb=>My.law_fn T kb nb⟩;exact fun s u=>.of_eq rfl
 case S=>exact fun w H a ns hl hO hS=>..
 case C=>exact ..
(the tactic k_is has no namespace:write k_is) -/
namespace L2
open PySem PySem.Spec PyProof.Rows
noncomputable def inClass (s:Stmt) (j:Nat):Stmt:=match s with
 | .ClassDef _ _ _ body _ _ _ _ _ _ _=>body.getD j (.Pass ⟨0,0,0,0⟩)
 | _=>.Pass ⟨0,0,0,0⟩
noncomputable def defArgs (s:Stmt):Arguments:=match s with
 | .FunctionDef _ a _ _ _ _ _ _ _ _=>a
 | _=>{posonlyargs:=[],args:=[],vararg:=none,kwonlyargs:=[],kw_defaults:=[],kwarg:=none,defaults:=[]}
noncomputable def defBody (s:Stmt):List Stmt:=match s with
 | .FunctionDef _ _ b _ _ _ _ _ _ _=>b
 | _=>[]
noncomputable def defScope (s:Stmt):Scope:=match s with
 | .FunctionDef _ _ _ _ _ _ sc _ _ _=>sc
 | _=>{kind:=.function,names:=[],isGenerator:=false,isCoroutine:=false}
noncomputable abbrev CX0:CXT:=fun _ _ _ _ _ _=>False
noncomputable abbrev E0:XK:=fun _ _ _=>False
theorem pass0 {X:Cx}:Passes CX0 X E0:=fun _ _ _ _ _ _ _ h=>h.elim
structure Fun (K:PySem.W.Frag) (x qual:Str) (st:Stmt) (f:Addr) (fd:FuncData):Prop where
 ex:∃(oc:Value) (od:Option Addr) (kV doc pm:Value) (an:Option Addr) (cdv ct:Value) (osl:Array (Option Value)),
  fd=PySem.W.fnOf x qual (defArgs st) (defBody st) (defScope st) .none kV doc pm an cdv ct∧K.lookup f=some ⟨oc,od,.func fd,osl⟩∧PySem.W.codeIn K cdv qual=true
 kp:PySem.W.keepIn K (.ref f)=true
section
variable {P:Program} {w:World} {K:PySem.W.Frag} {mg:Str→Option Value} {base:Heap}
theorem Fun.ok {x qual:Str} {st:Stmt} {f:Addr} {fd:FuncData} {N ps:List Str} {k:Nat} {sp:Sp} (F:Fun K x qual st f fd) (S:FnScope N ps (defScope st)) (len:∀vs H Q E,sp vs H Q E→vs.length=ps.length)
  (hbody:∀(cdv:Value) (A:Around) (outer:List Env) (s:Shared) (H:Hp) (vs:List V) (Q:VK) (E:XK),Room k (A.deeper (envOfC qual (defScope st) s.heap.objs.size f cdv))→sp vs H Q E→
   ∃t,PSs (cxOf CX0 P w K mg base N qual (defScope st) f cdv A outer s H E).nox (defBody st) t∧t {nx:=fun _ H'=>Q .non H',rt:=Q} (start N vs) H):FnOk P w K mg base CX0 (k+1) f fd ps sp:=by
 obtain ⟨oc,od,kV,doc,pm,an,cdv,ct,osl,rfl,lk,hcd⟩:=F.ex
 refine fn_of lk hcd S len fun A outer s H vs Q E hr hsp=>?_
 obtain ⟨t,h,q⟩:=hbody cdv A outer s H vs Q E hr hsp
 exact ⟨t,h.nox,q⟩
theorem Fun.binds {x qual:Str} {st:Stmt} {f:Addr} {fd:FuncData} {ps:List Str} (F:Fun K x qual st f fd)
  (h:∀(kV doc pm:Value) (an:Option Addr) (cdv ct:Value) (us:List Value),us.length=ps.length→bindArgs (PySem.W.fnOf x qual (defArgs st) (defBody st) (defScope st) .none kV doc pm an cdv ct) ⟨us,[]⟩=pure (ps.zip us)):Binds K fd ps []:=by
 obtain ⟨oc,od,kV,doc,pm,an,cdv,ct,osl,rfl,lk,hcd⟩:=F.ex
 exact .all (h kV doc pm an cdv ct)
theorem fun_mk {x qual:Str} {st:Stmt} {f:Addr} {oc:Value} {od an:Option Addr} {osl:Array (Option Value)} {kV doc pm cdv ct:Value} (l:K.lookup f=some ⟨oc,od,.func (PySem.W.fnOf x qual (defArgs st) (defBody st) (defScope st) .none kV doc pm an cdv ct),osl⟩)
  (c:PySem.W.codeIn K cdv qual=true) (k:PySem.W.keepIn K (.ref f)=true):Fun K x qual st f (PySem.W.fnOf x qual (defArgs st) (defBody st) (defScope st) .none kV doc pm an cdv ct):=⟨⟨oc,od,kV,doc,pm,an,cdv,ct,osl,rfl,l,c⟩,k⟩
end
theorem hu_of {A:Around} {k:Nat} (hr:Room k A):A.units+1 < cLine:=Nat.lt_of_le_of_lt (Nat.add_le_add_left (by decide:1≤64) _) hr.units
theorem small1000 {n:Nat} (h:n≤1000):n < sizeLine:=Nat.lt_of_le_of_lt h (by decide)
section
variable {X:Cx}
theorem pv (i:Nat) {x:Str} {pos:Pos} (hN:X.N[i]?=some x:=by rfl) (hv:Vis X.env.scope x:=by first | exact Or.inl rfl | exact Or.inr (Or.inl rfl) | exact Or.inr (Or.inr rfl)) (hd:(x==("__debug__":Str))=false:=by decide)
  (hcd:(x==("__classdict__":Str))=false:=by decide):PE X (.Name x pos) (tVar i):=pe_var hN hv hd hcd
end
theorem iteF {A B:Prop} (h:B):if false=true then A else B:=by
 rw [if_neg Bool.false_ne_true]
 exact h
theorem iteT {A B:Prop} (h:A):if true=true then A else B:=by
 rw [if_pos rfl]
 exact h
theorem ite2 {c A B:Prop} [Decidable c] (h1:c→A) (h2:¬c→B):if c then A else B:=by
 by_cases h:c
 ·rw [if_pos h]
  exact h1 h
 ·rw [if_neg h]
  exact h2 h
theorem iteNS {c A B:Prop} [Decidable c] (hc:c) (h:B):if (!decide c)=true then A else B:=by
 rw [decide_eq_true hc]
 exact iteF h
noncomputable def Same (H H':Hp):Prop:=∀b o,H b=some o→H' b=some o
theorem Same.refl (H:Hp):Same H H:=fun _ _ h=>h
theorem Same.trans {H H1 H2:Hp} (a:Same H H1) (b:Same H1 H2):Same H H2:=fun c o h=>b c o (a c o h)
theorem Same.free {H H':Hp} (e:Same H H') {l:Addr} (h:H' l=Option.none):H l=Option.none:=by
 cases q:H l with
 | none=>rfl
 | some o=>
  rw [e l o q] at h
  cases h
theorem Same.seq {K:PySem.W.Frag} {H H':Hp} {a:Addr} {xs:List V} (e:Same H H') (h:SqL K H a xs):SqL K H' a xs:=by
 rcases h with (h | ⟨o,h⟩) | h
 ·exact .inl (.inl (e _ _ h))
 ·exact .inl (.inr ⟨o,e _ _ h⟩)
 ·exact .inr h
end L2
set_option maxHeartbeats 4000000
namespace L3
open PySem PySem.Spec PyProof.Rows L2
noncomputable abbrev St:=L2.St
noncomputable abbrev V:=L2.V
noncomputable abbrev NoX:Value→Shared→Prop:=fun _ _=>False
theorem noX_any {α:Type} {M:Model} {A:Around} {t:Sem α} {Q:α→Shared→Prop} {E:Value→Shared→Prop} {s:Shared} (h:wpAny M A t Q NoX s):wpAny M A t Q E s:=
 wpAny_mono h (fun _ _ q=>q) fun _ _ z=>False.elim z
theorem comp_turns {prog:Program} {w:World} {A:Around} {R:Result→Shared→Prop} {s:Shared} {elt tg iter:Expr} {ifs:List Expr} {scope:Scope} {pos:Pos} {it acc:Value} {env:Env} (I:Nat→Shared→Prop)
  (turn:∀n s,I n s→wpAny (model prog w) A (pyNext it) (fun r s1=>match r with
   | none=>R (.ok .next) s1
   | some v=>wpAny (model prog w) A (letOwnedTupleGo tg it v) (fun _ s2=>wpAny (model prog w) A (assign tg env v) (fun _ s3=>
     wpAny (model prog w) A (forIn ifs true fun c r=>if r=true then do let ok ←isTrue c env (eval c env);pure (ForInStep.yield ok) else pure (ForInStep.yield r)) (fun ok s4=>
      if ok=true then wpAny (model prog w) A (eval elt env) (fun x s5=>wpAny (model prog w) A (call (.builtin "list.append") [acc,x]) (fun _ s6=>∃m,m < n∧I m s6) NoX s5) NoX s4
      else ∃m,m < n∧I m s4) NoX s3) NoX s2) NoX s1) NoX s)
  (n:Nat) (h:I n s):codeAny (model prog w) A (.compLoop (.ListComp elt [⟨tg,iter,ifs,0⟩] scope pos) 0 it acc env) R s:=by
 refine codeAny_loop rfl I (fun n s hI=>?_) n h
 show wpAny _ A ((compTurn (.ListComp elt [⟨tg,iter,ifs,0⟩] scope pos) 0 it acc env).onRaise (fun x=>do noteFrame x env;theTreesLotGoes x)) _ _ s
 refine wpAny_noted (noX_any ?_)
 rw [compTurn_list]
 refine wpAny_bind (wpAny_standAt (wpAny_bind (wpAny_mono (turn n s hI) (fun r s1 h1=>?_) fun _ _ z=>z)))
 cases r with
 | none=>exact wpAny_pure h1
 | some v=>
  refine wpAny_bind (wpAny_mono h1 (fun _ s2 h2=>wpAny_bind (wpAny_mono h2 (fun _ s3 h3=>wpAny_bind (wpAny_mono h3 (fun ok s4 h4=>?_) fun _ _ z=>z)) fun _ _ z=>z)) fun _ _ z=>z)
  cases ok with
  | false=>exact wpAny_pure ⟨rfl,h4⟩
  | true=>exact wpAny_bind (wpAny_bind (wpAny_mono h4 (fun x s5 h5=>wpAny_bind (wpAny_mono h5 (fun _ s6 h6=>wpAny_pure (wpAny_pure ⟨rfl,h6⟩)) fun _ _ z=>z)) fun _ _ z=>z))
noncomputable def caps (cs:List (Option Nat)) (σ:St):St:=cs.map fun o=>o.bind fun j=>(σ[j]?).bind id
noncomputable def cxComp (X:Cx) (N':List Str) (scope:Scope) (cl:List (Str × Addr)) (C:Addr) (s3:Shared) (H3:Hp) (fp:List Addr) (pn:List (Addr × Obj)):Cx:=
 {X with N:=N',s₀:=s3,H₀:=H3,env:=compEnvC scope cl C X.env,outer:=X.stack,stack:=X.stack,ex:=fp,fn:=fun _=>false,pn:=pn,xe:=fun _ _=>False}
noncomputable def CellK (k:Option NameKind):Prop:=k=some .cell∨k=some .free
inductive Caps (X:Cx) (scope:Scope) (cl:List (Str × Addr)):List Str→List (Option Nat)→Prop
 | nil:Caps X scope cl [] []
 | own {x N cs}:Caps X scope cl N cs→Caps X scope cl (x::N) (none::cs)
 | cap {x j N cs} (h1:X.N[j]?=some x) (h2:CellK (X.env.kindOf x)) (h3:CellK ((relabel scope X.env).names.lookup x)) (h4:cl.lookup x=X.env.cells.lookup x):
   Caps X scope cl N cs→Caps X scope cl (x::N) (some j::cs)
theorem Caps.len {X:Cx} {scope:Scope} {cl:List (Str × Addr)} {N cs} (h:Caps X scope cl N cs):cs.length=N.length:=by
 induction h with
 | nil=>rfl
 | own _ ih=>simp [ih]
 | cap _ _ _ _ _ ih=>simp [ih]
theorem Caps.get {X:Cx} {scope:Scope} {cl:List (Str × Addr)} {N cs} (h:Caps X scope cl N cs) {σ:St}:∀{i:Nat} {x:Str} {v:V},N[i]?=some x→(caps cs σ)[i]?=some (some v)→
  ∃j:Nat,X.N[j]?=some x∧σ[j]?=some (some v)∧CellK (X.env.kindOf x)∧CellK ((relabel scope X.env).names.lookup x)∧cl.lookup x=X.env.cells.lookup x:=by
 induction h with
 | nil=>intro i x v h1 h2;simp at h1
 | own _ ih=>
  intro i x v h1 h2
  cases i with
  | zero=>simp [caps] at h2
  | succ i=>exact ih (i:=i) (by simpa using h1) (by simpa [caps] using h2)
 | @cap y j N cs a1 a2 a3 a4 _ ih=>
  intro i x v h1 h2
  cases i with
  | zero=>
   simp at h1
   subst h1
   refine ⟨j,a1,?_,a2,a3,a4⟩
   simp [caps] at h2
   cases q:σ[j]? with
   | none=>rw [q] at h2;simp at h2
   | some o=>
    rw [q] at h2
    simp at h2
    rw [h2]
  | succ i=>exact ih (i:=i) (by simpa using h1) (by simpa [caps] using h2)
noncomputable def clOk (cl:List (Str × Addr)) (names:List (Str × NameKind)):Bool:=names.all fun y=>(y.2 !=.cell && y.2 !=.free) || (cl.lookup y.1).isSome
theorem clOk_has {cl:List (Str × Addr)} {names:List (Str × NameKind)} (h:clOk cl names=true) {x:Str} (k:CellK (names.lookup x)):∃c,cl.lookup x=some c:=by
 have key:∀q:NameKind,names.lookup x=some q→(q=.cell∨q=.free)→∃c,cl.lookup x=some c:=fun q e hq=>by
  have m:=List.all_eq_true.mp h (x,q) (PySem.mem_of_lookup e)
  rcases hq with rfl | rfl
  ·exact Option.isSome_iff_exists.mp (by simpa using m)
  ·exact Option.isSome_iff_exists.mp (by simpa using m)
 rcases k with k | k
 ·exact key _ k (.inl rfl)
 ·exact key _ k (.inr rfl)
noncomputable def PIfs (X:Cx) (ifs:List Expr) (t:TT):Prop:=
 ∀(pins:List (Addr × Obj)) (s:Shared) (σ:St) (H:Hp) (Q:Bool→Hp→Prop),Inv X pins σ H s→t σ H Q→
  wpAny (model X.prog X.w) X.A (forIn ifs true fun c r=>if r=true then do let ok ←isTrue c X.env (eval c X.env);pure (ForInStep.yield ok) else pure (ForInStep.yield r)) (TP X pins σ Q) X.xe s
noncomputable def tAll:TT:=fun _ H Q=>Q true H
theorem pif_nil {X:Cx}:PIfs X [] tAll:=fun _ _ _ H _ I h=>wpAny_tests_nil ⟨H,I,h⟩
theorem pif_one {X:Cx} {c:Expr} {t:TT} (h:PT X c t):PIfs X [c] t:=fun pins s σ H Q I q=>wpAny_tests_one (h pins s σ H Q I q)
noncomputable def tLC (wi:TI) (cs:List (Option Nat)) (g:TG) (tt:TT) (te:TE):TE:=fun σ H Q=>wi σ H fun J H1=>∀D,H1 D=none→
 ∃W:Nat→Nat→List V→St→Hp→Prop,(∃m,W 0 m [] (caps cs σ) (upd H1 D (.lst [])))∧∀i m ys σ' H',W i m ys σ' H'→H' D=some (.lst ys)∧ys.length < sizeLine∧
  ((J.stop i H'∧Q (.ref D) H')∨(J.go i H'∧∀x H2,J.yld i H' x H2→g x σ' H2 fun σ3 H3=>tt σ3 H3 fun b H4=>
   if b=true then te σ3 H4 fun y H5=>H5 D=some (.lst ys)∧∃m',m' < m∧W (i+1) m' (ys++[y]) σ3 (upd H5 D (.lst (ys++[y])))
   else ∃m',m' < m∧W (i+1) m' ys σ3 H4))
section
variable {X:Cx} {elt tg iter:Expr} {ifs:List Expr} {scope:Scope} {pos:Pos} {N':List Str} {cs:List (Option Nat)} {cl:List (Str × Addr)} {wi:TI} {g:TG} {tt:TT} {te:TE}
theorem hok_but {P:Program} {w:World} {H:Hp} {h h':Heap} {C:Addr} (ok:HOk P w H h) (hC:H C=none) (hs:Heap.SameBut C h h'):HOk P w H h':=fun b ob e=>by
 refine (ok b ob e).stay (fun c u hc q=>(hs.2 c ?_).trans q) (fun _ q=>q) fun _ _ q=>q
 rintro rfl
 rcases hc with rfl | hc
 ·rw [hC] at e;cases e
 ·rw [hC] at hc;cases hc
theorem lc_any {use:Option (Value→Sem Unit)} {QQ:Value→Shared→Prop} {pins:List (Addr × Obj)} {s:Shared} {σ:St} {H:Hp} {Q:VK} {fpos:Pos} (hc:X.calm=true) (hi:PI X tg iter wi) (hclos:closureFor scope X.env=pure cl) (hcell:∀y∈scope.names,y.2≠.cell) (hkind:scope.kind=.function)
  (hnames:∀y∈scope.names,y.2=.local→scope.names.lookup y.1=some .local) (hsub:∀x c,cl.lookup x=some c→X.env.cells.lookup x=some c)
  (hok:clOk cl (relabel scope X.env).names=true) (hcaps:Caps X scope cl N' cs)
  (hb:∀(C:Addr) (s3:Shared) (H3:Hp) (fp:List Addr) (pn:List (Addr × Obj)),PG (cxComp X N' scope cl C s3 H3 fp pn) tg g∧PIfs (cxComp X N' scope cl C s3 H3 fp pn) ifs tt∧PE (cxComp X N' scope cl C s3 H3 fp pn) elt te)
  (hs:∀x,foldedSetIterable iter X.env x=pure x:=by intro _;rfl) (I:Inv X pins σ H s) (h:tLC wi cs g tt te σ H Q)
  (post:∀(D C:Addr) (s4:Shared) (H':Hp) (m:Str→Option Value),Inv X pins σ H' s4→s4.heap.Ns C m→FpOk X pins H' C→Q (.ref D) H'→compPost (model X.prog X.w) X.A X.xe use QQ (.ref D) C (.ok .next) s4):
  wpAny (model X.prog X.w) X.A (comprehension (.ListComp elt [⟨tg,iter,ifs,0⟩] scope pos) scope X.env fpos (newList []) false (eval iter X.env) use) QQ X.xe s:=by
 refine wpAny_comprehension_free (use:=use) rfl hs hclos hkind hnames (thn (hi pins s σ H _ I h) fun v s1 h1=>thn h1 fun itv s2 h2=>?_)
 obtain ⟨it,fp,tn,J,H2,rfl,I2,T,st2,f2,q2⟩:=h2
 refine wpAny_newObj_type (wpAny_newFunctionEnv hcell (by intro y hy;simp at hy) (fun h1 hns1 hsb1=>?_) hkind)
 dsimp only at hns1 hsb1 ⊢
 have I3:Inv X pins σ (upd H2 s2.heap.objs.size (.lst [])) {s2 with heap:=s2.heap.push {cls:=.type "list",data:=.seq ([]:List Value).toArray},toks:=s2.toks}:=I2.lnew (its:=[]) (ys:=[]) .nil (Nat.zero_le _)
 have hDf:H2 s2.heap.objs.size=none:=I2.fresh
 obtain ⟨W,⟨m0,w0⟩,turn⟩:=q2 _ hDf
 generalize hH3:s2.heap.push {cls:=.type "list",dict:=none,data:=.seq ([]:List Value).toArray}=h3 at hns1 hsb1 I3 ⊢
 have hsz3:h3.objs.size=s2.heap.objs.size+1:=by rw [←hH3,Heap.size_push]
 generalize hD:s2.heap.objs.size=D at *
 have kept:∀b o,h3.get? b=some o→h1.get? b=some o:=fun b o e=>hsb1.extBut b o (Nat.ne_of_lt (Heap.lt_size e)) (Heap.get?_push_of_some _ e)
 have old:∀b o,s2.heap.get? b=some o→h3.get? b=some o:=fun b o e=>by rw [←hH3];exact Heap.get?_push_of_some _ e
 have fpo:∀b∈fp,b < D:=fun b hb'=>by
  obtain ⟨o,e,_⟩:=T.obj 0 _ st2 b hb'
  rw [←hD]
  exact Heap.lt_size e
 have fpfs:∀b∈fp,b∉frs X.stack:=fun b hb' z=>by
  obtain ⟨_,f1,f3,_⟩:=f2 b hb'
  rcases List.mem_cons.mp (I2.stkSub b z) with e | e
  ·exact f1 e
  ·exact f3 e
 generalize hX:cxComp X N' scope cl h3.objs.size {s2 with heap:=h3,toks:=s2.toks} (upd H2 D (.lst [])) fp (X.pn++pins)=X'
 obtain ⟨hg,hif,he⟩:=hb h3.objs.size {s2 with heap:=h3,toks:=s2.toks} (upd H2 D (.lst [])) fp (X.pn++pins)
 rw [hX] at hg hif he
 have eP:X'.prog=X.prog:=by rw [←hX];rfl
 have eW:X'.w=X.w:=by rw [←hX];rfl
 have eK:X'.K=X.K:=by rw [←hX];rfl
 have eC:X'.calm=X.calm:=by rw [←hX];rfl
 have I4:Inv X' [] (caps cs σ) (upd H2 D (.lst [])) {s2 with heap:=h1,toks:=s2.toks+0}:=by
  rw [←hX]
  refine ⟨⟨I3.ok.mod,hkind,I3.ok.glob,I3.ok.blt,Nat.le_refl _,fun x y c e1 e2=>I3.ok.inj x y c (hsub _ _ e1) (hsub _ _ e2),fun x hx=>clOk_has hok hx,fun x c z _=>absurd (show false=true from z) Bool.false_ne_true,I3.ok.hd,I3.ok.frames,.inl rfl,
   fun b hb'=>⟨fun e=>?_,fun x c e=>(f2 b hb').2.2.2.2.1 x c (hsub _ _ e)⟩,I3.bs,Nat.le_trans I3.ok.bsz I3.sz,fun b o e hb'=>?_,fpfs,I3.stack,I3.stkFree⟩,rfl,I3.bare,Un.kept kept,⟨_,hns1,fun i x v e1 e2 e3=>?_⟩,fun x c e=>?_,I3.hok.fresh (Nat.le_refl _),fun x c e=>I3.freeC x c (hsub _ _ e),
   fun p hp=>?_,I3.hok.kept kept,?_⟩
  ·have l:=fpo b hb'
   rw [show b=h3.objs.size from e,hsz3] at l
   exact Nat.lt_irrefl _ (Nat.lt_of_succ_lt l)
  ·have l:=fpo b hb'
   rcases (f2 b hb').2.2.2.1 with z | z
   ·exact I2.ok.noex b o e z
   ·exact absurd (Nat.lt_of_lt_of_le (Heap.lt_size (I2.ok.bs b o e).1) z) (Nat.lt_irrefl _)
  ·obtain ⟨j,a1,a2,a3,a4,a5⟩:=hcaps.get e1 e2
   obtain ⟨m,hn,hl⟩:=I3.loc
   obtain ⟨u,ru,l⟩:=hl j x v a1 a2 (by rcases a3 with z | z;exact .inr (.inl z);exact .inr (.inr z))
   refine ⟨u,ru,.inr ⟨a4,?_⟩⟩
   rcases l with ⟨k,_⟩ | ⟨k,c,e,z⟩
   ·rcases a3 with q | q <;> (rw [k] at q;cases q)
   ·obtain ⟨o,ho,hd⟩:=z
    exact ⟨c,a5.trans e,o,kept c o ho,hd⟩
  ·obtain ⟨v,o,ho,hd⟩:=I3.cell x c (hsub _ _ e)
   exact ⟨v,o,kept c o ho,hd⟩
  ·have hp':p∈X.pn++pins:=by simpa [cxComp] using hp
   obtain ⟨e,n,ne,nf,d⟩:=I3.pin p hp'
   refine ⟨kept _ _ e,n,Nat.ne_of_lt (Heap.lt_size e),fun z=>?_,d⟩
   rcases List.mem_cons.mp (I3.stkSub p.1 z) with q | q
   ·exact ne q
   ·exact nf q
  ·show (caps cs σ).length=N'.length
   rw [caps,List.length_map]
   exact hcaps.len
 have tn1:tn 0 h1:=T.keep 0 _ _ st2 fun b hb' o e=>kept b o (old b o e)
 have stat:∀{H':Hp},(∀b∈fp,H' b=none)→∀b∈fp,FpOk X' [] H' b:=fun {H'} hn b hb'=>by
  rw [←hX]
  refine ⟨hn b hb',fun e=>?_,fpfs b hb',.inl hb',fun x c e=>(f2 b hb').2.2.2.2.1 x c (hsub _ _ e),fun p hp=>(f2 b hb').2.2.2.2.2 p (by simpa [cxComp] using hp)⟩
  have l:=fpo b hb'
  rw [show b=h3.objs.size from e,hsz3] at l
  exact Nat.lt_irrefl _ (Nat.lt_of_succ_lt l)
 have fr0:∀b∈fp,(upd H2 D (.lst [])) b=none:=fun b hb'=>by
  rw [upd_ne (Nat.ne_of_lt (fpo b hb'))]
  exact (f2 b hb').1
 have xA:X'.A=X.A:=by rw [←hX];rfl
 have xE:X'.env=compEnvC scope cl h3.objs.size X.env:=by rw [←hX];rfl
 have xX:X'.xe=NoX:=by rw [←hX];rfl
 have loop:codeAny (model X.prog X.w) X.A (.compLoop (.ListComp elt [⟨tg,iter,ifs,0⟩] scope pos) 0 (.ref it) (.ref D) (compEnvC scope cl h3.objs.size X.env))
   (compPost (model X.prog X.w) X.A X.xe use QQ (.ref D) h3.objs.size) {s2 with heap:=h1,toks:=s2.toks+0}:=by
  refine comp_turns (fun n s'=>∃i ys σ' H',Inv X' [] σ' H' s'∧tn i s'.heap∧(∀b∈fp,H' b=none)∧W i n ys σ' H') ?_ m0 ⟨0,[],_,_,I4,tn1,fr0,w0⟩
  rintro n s' ⟨i,ys,σ',H',I',st',fr',w'⟩
  obtain ⟨hHD,hyl,hor⟩:=turn i n ys σ' H' w'
  rcases hor with ⟨stop,q⟩ | ⟨go,step⟩
  ·have hd:=T.done X' eP eW eK (eC.trans hc) i [] s' σ' H' NoX I' (stat fr') st' stop
   rw [xA] at hd
   refine thn hd fun r s4 hr=>?_
   obtain ⟨rfl,I5⟩:=hr
   obtain ⟨m,hn,_⟩:=id I5.loc
   have eL:X'.env.locals=h3.objs.size:=by rw [xE];rfl
   have hfree:H' h3.objs.size=none:=by rw [←eL];exact I5.free
   have bu:=I5.base
   rw [←hX] at bu
   have hos:s4.os=s2.os:=by
    have z:=I5.os
    rw [←hX] at z
    exact z
   have hk5:=I5.hok
   rw [eP,eW] at hk5
   have Iout:Inv X pins σ H' s4:=I3.call' (s':=s4) (ch:=fp) hos ⟨bu.keep,bu.slot,bu.free,bu.there,bu.tups,bu.frzs,bu.tbls⟩ hk5 I5.bare fun b hb'=>by
    obtain ⟨_,g1,_,g3,g4,g5⟩:=f2 b hb'
    exact ⟨g3,g1,g4,g5⟩
   exact post D h3.objs.size s4 H' m Iout (by rw [eL] at hn;exact hn) (I3.fpOk (Nat.le_refl _) hfree) q
  ·have hit:=T.item X' eP eW eK (eC.trans hc) i [] s' σ' H' NoX I' (stat fr') st' go
   rw [xA] at hit
   refine thn hit fun r s4 hr=>?_
   obtain ⟨u,rfl,h4⟩:=hr
   refine thn h4 fun _ s5 h5=>?_
   obtain ⟨x,H5,I5,r5,y5,st5,fr5⟩:=h5
   have I5':=I5.pinned (stat fr5) (T.obj _ _ st5)
   have ha:=hg _ s5 σ' H5 x u _ I5' r5 (step x H5 y5)
   rw [xA,xE,xX,eP,eW] at ha
   refine thn ha fun _ s6 h6=>?_
   obtain ⟨σ6,H6,I6,q6⟩:=h6
   have ht:=hif _ s6 σ6 H6 _ I6 q6
   rw [xA,xE,xX,eP,eW] at ht
   refine thn ht fun ok s7 h7=>?_
   obtain ⟨H7,I7,q7⟩:=h7
   have back:∀{σ8:St} {H8:Hp} {s8:Shared} {ys':List V} {m':Nat},Inv X' ([]++pinsAt fp s5.heap) σ8 H8 s8→m' < n→W (i+1) m' ys' σ8 H8→
     ∃m,m < n∧∃i ys σ' H',Inv X' [] σ' H' s8∧tn i s8.heap∧(∀b∈fp,H' b=none)∧W i m ys σ' H':=fun {σ8 H8 s8 ys' m'} I8 hm w8=>by
    refine ⟨m',hm,i+1,ys',σ8,H8,I8.unpinned,T.keep _ _ _ st5 fun b hb' o e=>(I8.pin (b,o) (List.mem_append_right _ (List.mem_append_right _ (mem_pinsAt hb' e)))).1,fun b hb'=>?_,w8⟩
    obtain ⟨o,e,d⟩:=T.obj _ _ st5 b hb'
    exact (I8.pin (b,o) (List.mem_append_right _ (List.mem_append_right _ (mem_pinsAt hb' e)))).2.1
   cases ok with
   | false=>
    rw [if_neg Bool.false_ne_true] at q7 ⊢
    obtain ⟨m',hm,w7⟩:=q7
    exact back I7 hm w7
   | true=>
    rw [if_pos rfl] at q7 ⊢
    have hel:=he _ s7 σ6 H7 _ I7 q7
    rw [xA,xE,xX,eP,eW] at hel
    refine thn hel fun yv s8 h8=>?_
    obtain ⟨y,H8,I8,r8,hD8,m',hm,w8⟩:=h8
    have hap:=mt_append (X:=X') _ s8 σ6 H8 (.ref D) [y] (.ref D) [yv] (fun _ H9=>H9=upd H8 D (.lst (ys++[y]))) I8 rfl (.cons r8 .nil) ⟨D,ys,y,rfl,rfl,hD8,hyl,rfl⟩
    rw [xA,xX,eP,eW] at hap
    refine thn hap fun _ s9 h9=>?_
    obtain ⟨_,H9,I9,_,rfl⟩:=h9
    exact back I9 hm w8
 exact codeAny_compStart_list loop (T.self _ 0 _ _ _ tn1 loop)
theorem pe_lc (hc:X.calm=true) (hi:PI X tg iter wi) (hclos:closureFor scope X.env=pure cl) (hcell:∀y∈scope.names,y.2≠.cell) (hkind:scope.kind=.function)
  (hnames:∀y∈scope.names,y.2=.local→scope.names.lookup y.1=some .local) (hsub:∀x c,cl.lookup x=some c→X.env.cells.lookup x=some c)
  (hok:clOk cl (relabel scope X.env).names=true) (hcaps:Caps X scope cl N' cs)
  (hb:∀(C:Addr) (s3:Shared) (H3:Hp) (fp:List Addr) (pn:List (Addr × Obj)),PG (cxComp X N' scope cl C s3 H3 fp pn) tg g∧PIfs (cxComp X N' scope cl C s3 H3 fp pn) ifs tt∧PE (cxComp X N' scope cl C s3 H3 fp pn) elt te)
  (hs:∀x,foldedSetIterable iter X.env x=pure x:=by intro _;rfl):PE X (.ListComp elt [⟨tg,iter,ifs,0⟩] scope pos) (tLC wi cs g tt te):=by
 intro pins s σ H Q I h
 rw [eval_ListComp]
 refine lc_any hc hi hclos hcell hkind hnames hsub hok hcaps hb hs I h fun D C s4 H' m I4 hn fC q=>⟨m,hn,fun h' hsb=>⟨.ref D,H',?_,rfl,q⟩⟩
 obtain ⟨f0,f1,f2,f3,f4,f5⟩:=fC
 exact I4.turned (t':=s4.toks) (fun b o hb e=>(hsb.2 b hb).trans e) f0 f1 f3 f4 f5
theorem ps_setLC {i:Nat} {y:Str} {py spos:Pos} (hN:X.N.Nodup) (hiy:X.N[i]?=some y) (hly:X.env.scope.names.lookup y=some .local) (hsw:swapsWith (.ListComp elt [⟨tg,iter,ifs,0⟩] scope pos) (some (.Name y py)) spos.line X.env=pure true)
  (hc:X.calm=true) (hi:PI X tg iter wi) (hclos:closureFor scope X.env=pure cl) (hcell:∀y∈scope.names,y.2≠.cell) (hkind:scope.kind=.function)
  (hnames:∀y∈scope.names,y.2=.local→scope.names.lookup y.1=some .local) (hsub:∀x c,cl.lookup x=some c→X.env.cells.lookup x=some c)
  (hok:clOk cl (relabel scope X.env).names=true) (hcaps:Caps X scope cl N' cs)
  (hb:∀(C:Addr) (s3:Shared) (H3:Hp) (fp:List Addr) (pn:List (Addr × Obj)),PG (cxComp X N' scope cl C s3 H3 fp pn) tg g∧PIfs (cxComp X N' scope cl C s3 H3 fp pn) ifs tt∧PE (cxComp X N' scope cl C s3 H3 fp pn) elt te)
  (hs:∀x,foldedSetIterable iter X.env x=pure x:=by intro _;rfl):PS X (.Assign [.Name y py] (.ListComp elt [⟨tg,iter,ifs,0⟩] scope pos) spos) (tAsg (tLC wi cs g tt te) (gName i)):=by
 intro pins s σ H D0 I h
 rw [exec_Assign_Name_used _ _ _ _ hsw]
 refine wpAny_bind (wpAny_standAt (wpAny_bind ?_))
 show wpAny _ X.A (do let _ ←comprehension (.ListComp elt [⟨tg,iter,ifs,0⟩] scope pos) scope X.env _ (newList []) false (eval iter X.env) (some (assign (.Name y py) X.env))) _ _ s
 refine wpAny_bind (wpAny_mono (lc_any (use:=some (assign (.Name y py) X.env)) (QQ:=fun _ s'=>SP X pins D0 .next s') hc hi hclos hcell hkind hnames hsub hok hcaps hb hs I h ?_) (fun _ s' hq=>wpAny_pure (wpAny_pure hq)) fun _ _ e=>e)
 intro D C s4 H' m I4 hn fC q
 obtain ⟨f0,f1,f2,f3,f4,f5⟩:=fC
 refine wpAny_assign_Name (store_ok2 I4 hN hiy (.inl hly) (v:=.ref D) rfl (fun s6 I6 ⟨a,sb,ha⟩=>?_) (.inr hly))
 have hCa:C≠a:=by
  rcases ha with rfl | ha
  ·exact f1
  ·exact fun e=>f4 _ _ ha e.symm
 refine ⟨m,hn.sameBut sb hCa,fun h' hsb=>⟨_,H',?_,q⟩⟩
 exact I6.turned (t':=s6.toks) (fun b o hb e=>(hsb.2 b hb).trans e) f0 f1 f3 f4 f5
end
noncomputable def Wk (J:It) (H1:Hp) (xs:List V):Prop:=∀H',Same H1 H'→J.stop xs.length H'∧(∀i,i < xs.length→J.go i H')∧∀i x H2,i < xs.length→J.yld i H' x H2→H2=H'∧xs[i]?=some x
theorem wk_list {K:PySem.W.Frag} {a:Addr} {xs:List V} {H1:Hp} (h:SqL K H1 a xs):Wk (Itl K a) H1 xs:=fun H' sm=>
 ⟨⟨xs,sm.seq h,Nat.le_refl _⟩,fun i hi=>⟨xs,xs[i],sm.seq h,by simp [hi]⟩,fun i x H2 _ y=>⟨y.1,y.2 xs (sm.seq h)⟩⟩
theorem wk_range {H1:Hp} (lo:Int) (n:Nat):Wk (Itr lo n) H1 ((List.range n).map fun i:Nat=>V.int (lo+i)):=fun H' _=>
 ⟨by show n≤_;simp,fun i hi=>(by simpa using hi:i < n),fun i x H2 hi y=>by
  obtain ⟨e1,e2⟩:=y
  have hi':i < n:=by simpa using hi
  refine ⟨e1,?_⟩
  rw [e2]
  simp [hi']⟩
theorem for_wk {J:It} {xs:List V} {g:TG} {tb:TS} {D:Ends} {σ:St} {H:Hp} (Pv:Nat→St→Hp→Prop) (wk:Wk J H xs) (h0:Pv 0 σ H) (hm:∀i σ' H',Pv i σ' H'→Same H H')
  (hs:∀i x σ' H',xs[i]?=some x→Pv i σ' H'→g x σ' H' fun σ2 H2=>tb {D with nx:=Pv (i+1),ct:=Pv (i+1),bk:=D.nx} σ2 H2) (hd:∀σ' H',Pv xs.length σ' H'→D.nx σ' H'):
  ∃W:Nat→Nat→St→Hp→Prop,(∃m,W 0 m σ H)∧∀i m σ H,W i m σ H→
   (J.stop i H∧D.nx σ H)∨(J.go i H∧∃N:St→Hp→Prop,(∀σ' H',N σ' H'→∃m',m' < m∧W (i+1) m' σ' H')∧∀x H',J.yld i H x H'→g x σ H' fun σ2 H2=>tb {D with nx:=N,ct:=N,bk:=D.nx} σ2 H2):=by
 refine ⟨fun i m σ' H'=>m=xs.length - i∧i≤xs.length∧Pv i σ' H',⟨xs.length,by simp,Nat.zero_le _,h0⟩,?_⟩
 rintro i m σ' H' ⟨rfl,hi,p⟩
 obtain ⟨w1,w2,w3⟩:=wk H' (hm i σ' H' p)
 by_cases hlt:i < xs.length
 ·refine .inr ⟨w2 i hlt,Pv (i+1),fun σ2 H2 p'=>⟨xs.length - (i+1),by omega,rfl,hlt,p'⟩,fun x H2 y=>?_⟩
  obtain ⟨rfl,ex⟩:=w3 i x H2 hlt y
  exact hs i x σ' _ ex p
 ·have e:i=xs.length:=by omega
  subst e
  exact .inl ⟨w1,hd σ' H' p⟩
theorem lc_wk {J:It} {xs:List V} {cs:List (Option Nat)} {σ rest:St} {tt:TT} {te:TE} {Q:VK} {H1:Hp} (hcs:caps cs σ=none::rest) (wk:Wk J H1 xs) (hl:xs.length < sizeLine) (p:V→Bool) (f:V→V)
  (test:∀(i:Nat) (x:V) (H2:Hp) (R:Bool→Hp→Prop),xs[i]?=some x→Same H1 H2→(∀H5,Same H2 H5→R (p x) H5)→tt (some x::rest) H2 R)
  (elt:∀(i:Nat) (x:V) (H2:Hp) (R:VK),xs[i]?=some x→p x=true→Same H1 H2→(∀H5,Same H2 H5→R (f x) H5)→te (some x::rest) H2 R)
  (fin:∀(D:Addr) (H':Hp),H1 D=none→H' D=some (.lst ((xs.filter p).map f))→Same H1 H'→Q (.ref D) H'):
  ∀D,H1 D=none→∃W:Nat→Nat→List V→St→Hp→Prop,(∃m,W 0 m [] (caps cs σ) (upd H1 D (.lst [])))∧∀i m ys σ' H',W i m ys σ' H'→H' D=some (.lst ys)∧ys.length < sizeLine∧
   ((J.stop i H'∧Q (.ref D) H')∨(J.go i H'∧∀x H2,J.yld i H' x H2→gName 0 x σ' H2 fun σ3 H3=>tt σ3 H3 fun b H4=>
    if b=true then te σ3 H4 fun y H5=>H5 D=some (.lst ys)∧∃m',m' < m∧W (i+1) m' (ys++[y]) σ3 (upd H5 D (.lst (ys++[y])))
    else ∃m',m' < m∧W (i+1) m' ys σ3 H4)):=by
 intro D hD
 refine ⟨fun i m ys σ' H'=>m=xs.length - i∧i≤xs.length∧ys=((xs.take i).filter p).map f∧(∃o,σ'=o::rest)∧Same H1 H'∧H' D=some (.lst ys),⟨xs.length,by simp,Nat.zero_le _,by simp,⟨none,hcs⟩,fun b o e=>?_,upd_same⟩,?_⟩
 ·rw [upd_ne (ne_of_none e hD)]
  exact e
 ·rintro i m ys σ' H' ⟨rfl,hi,rfl,⟨o,rfl⟩,sm,hHD⟩
  obtain ⟨w1,w2,w3⟩:=wk H' sm
  refine ⟨hHD,Nat.lt_of_le_of_lt ?_ hl,?_⟩
  ·rw [List.length_map]
   refine Nat.le_trans (List.length_filter_le _ _) ?_
   rw [List.length_take]
   exact Nat.min_le_right _ _
  by_cases hlt:i < xs.length
  ·refine .inr ⟨w2 i hlt,fun x H2 y=>?_⟩
   obtain ⟨rfl,ex⟩:=w3 i x H2 hlt y
   show tt (some x::rest) H2 _
   refine test i x H2 _ ex sm fun H4 s4=>?_
   have tk:xs.take (i+1)=xs.take i++[x]:=by rw [List.take_add_one,ex];rfl
   cases hp:p x with
   | true=>
    refine iteT ?_
    refine elt i x H4 _ ex hp (sm.trans s4) fun H5 s5=>⟨s5 _ _ (s4 _ _ hHD),xs.length - (i+1),by omega,rfl,hlt,?_,⟨_,rfl⟩,fun b ob e=>?_,upd_same⟩
    ·rw [tk,List.filter_append,List.map_append]
     simp [hp]
    ·rw [upd_ne (ne_of_none e hD)]
     exact s5 _ _ (s4 _ _ (sm _ _ e))
   | false=>
    refine iteF ⟨xs.length - (i+1),by omega,rfl,hlt,?_,⟨_,rfl⟩,sm.trans s4,s4 _ _ hHD⟩
    rw [tk,List.filter_append,List.map_append]
    simp [hp]
  ·have e:i=xs.length:=by omega
   subst e
   exact .inl ⟨w1,fin D H' hD (by rw [hHD,List.take_length]) sm⟩
theorem lc_map {J:It} {xs:List V} {cs:List (Option Nat)} {σ rest:St} {te:TE} {Q:VK} {H1:Hp} (hcs:caps cs σ=none::rest) (wk:Wk J H1 xs) (hl:xs.length < sizeLine) (f:V→V)
  (elt:∀(i:Nat) (x:V) (H2:Hp) (R:VK),xs[i]?=some x→Same H1 H2→(∀H5,Same H2 H5→R (f x) H5)→te (some x::rest) H2 R)
  (fin:∀(D:Addr) (H':Hp),H1 D=none→H' D=some (.lst (xs.map f))→Same H1 H'→Q (.ref D) H'):
  ∀D,H1 D=none→∃W:Nat→Nat→List V→St→Hp→Prop,(∃m,W 0 m [] (caps cs σ) (upd H1 D (.lst [])))∧∀i m ys σ' H',W i m ys σ' H'→H' D=some (.lst ys)∧ys.length < sizeLine∧
   ((J.stop i H'∧Q (.ref D) H')∨(J.go i H'∧∀x H2,J.yld i H' x H2→gName 0 x σ' H2 fun σ3 H3=>tAll σ3 H3 fun b H4=>
    if b=true then te σ3 H4 fun y H5=>H5 D=some (.lst ys)∧∃m',m' < m∧W (i+1) m' (ys++[y]) σ3 (upd H5 D (.lst (ys++[y])))
    else ∃m',m' < m∧W (i+1) m' ys σ3 H4)):=
 lc_wk hcs wk hl (fun _=>true) f (fun i x H2 R _ _ h=>h H2 (Same.refl _)) (fun i x H2 R ex _ sm h=>elt i x H2 R ex sm h) fun D H' h1 h2 h3=>fin D H' h1 (by rw [h2,List.filter_eq_self.mpr fun _ _=>rfl]) h3
open PySem PySem.Spec PyProof.Rows L2
noncomputable def signs (x:Str):List V:=x.cps.toList.map fun c=>V.str ⟨#[c]⟩
noncomputable def Its (x:Str):It:=⟨fun i _=>i < x.cps.size,fun i H v H'=>H'=H∧∃c,x.cps[i]?=some c∧v=.str ⟨#[c]⟩,fun i _=>i=x.cps.size⟩
theorem wk_str {H1:Hp} (x:Str):Wk (Its x) H1 (signs x):=fun H' _=>by
 have hl:(signs x).length=x.cps.size:=by simp [signs]
 refine ⟨hl,fun i hi=>by rw [hl] at hi;exact hi,fun i v H2 hi y=>?_⟩
 obtain ⟨e1,c,e2,e3⟩:=y
 refine ⟨e1,?_⟩
 subst e3
 have e4:x.cps.toList[i]?=some c:=by simpa using e2
 simp [signs,e4]
theorem turn_str {P:Program} {w:World} {K:PySem.W.Frag} {tg:Expr} (it:Addr) (x:Str) (t:Tok) {ty:String} (hty:ty="str_ascii_iterator"∨ty="str_iterator"):Turn P w K tg (Its x) [it] it (fun i h=>h.IsStrIter it ty x t i) where
 mem:=by simp
 obj:=fun i h st b hb=>by
  have e:b=it:=by simpa using hb
  subst e
  obtain ⟨o,e,c,d⟩:=st
  exact ⟨o,e,fun v z=>by rw [d] at z;cases z⟩
 keep:=fun i h h' st k=>by
  obtain ⟨o,e,r⟩:=st
  exact ⟨o,k it (by simp) o e,r⟩
 item:=by
  intro X hP hw hK hc i pins s σ H E I hf st hg
  subst hP hw hK
  obtain ⟨f0,f1,f2,f3,f4,f5⟩:=hf it (by simp)
  have hi:i < x.cps.size:=hg
  have ec:x.cps[i]?=some x.cps[i]:=by simp [hi]
  rcases hty with rfl | rfl
  ·refine wpAny_pyNext_ascii_item st ec fun h' st' sb=>?_
   have I1:Inv X pins σ H {s with heap:=h',toks:=s.toks+1}:=I.turned (fun b o hb e=>(sb.2 b hb).trans e) f0 f1 f3 f4 f5
   obtain ⟨o,e,c,d⟩:=id st'
   exact ⟨_,rfl,go_of (s:={s with heap:=h',toks:=s.toks+1}) e c d (by decide) ⟨.str ⟨#[x.cps[i]]⟩,H,I1,⟨_,rfl⟩,⟨rfl,_,ec,rfl⟩,st',fun b hb=>(hf b hb).1⟩⟩
  ·refine wpAny_pyNext_wide_item st ec fun h' st' sb=>?_
   have I1:Inv X pins σ H {s with heap:=h',toks:=s.toks+1}:=I.turned (fun b o hb e=>(sb.2 b hb).trans e) f0 f1 f3 f4 f5
   obtain ⟨o,e,c,d⟩:=id st'
   exact ⟨_,rfl,go_of (s:={s with heap:=h',toks:=s.toks+1}) e c d (by decide) ⟨.str ⟨#[x.cps[i]]⟩,H,I1,⟨_,rfl⟩,⟨rfl,_,ec,rfl⟩,st',fun b hb=>(hf b hb).1⟩⟩
 done:=by
  intro X hP hw hK hc i pins s σ H E I hf st hg
  subst hP hw hK
  obtain ⟨f0,f1,f2,f3,f4,f5⟩:=hf it (by simp)
  have ec:x.cps[i]?=none:=by
   have e:i=x.cps.size:=hg
   simp [e]
  rcases hty with rfl | rfl
  ·exact wpAny_pyNext_ascii_end (I.ok.hd hc) st ec fun h' eb=>⟨rfl,I.turned (t':=s.toks) (fun b o hb e=>eb b o hb e) f0 f1 f3 f4 f5⟩
  ·exact wpAny_pyNext_wide_end (I.ok.hd hc) st ec fun h' eb=>⟨rfl,I.turned (t':=s.toks) (fun b o hb e=>eb b o hb e) f0 f1 f3 f4 f5⟩
 self:=fun _ _ _ _ _ st h=>by
  rcases hty with rfl | rfl
  ·exact wpAny_pyIter_striter_ascii st h
  ·exact wpAny_pyIter_striter_wide st h
section
variable {X:Cx} {tg:Expr}
noncomputable def iStr (tl:TE):TI:=fun σ H R=>tl σ H fun x H1=>∃z,x=.str z∧R (Its z) H1
theorem pi_str {l:Expr} {tl:TE} (hl:PE X l tl):PI X tg l (iStr tl):=by
 intro pins s σ H R I h
 refine thn (hl pins s σ H _ I h) fun v s1 ⟨x,H1,I1,r1,q1⟩=>?_
 obtain ⟨z,e,q⟩:=q1
 subst e
 obtain ⟨t,rfl⟩:=r1
 have fin:∀(ty:String) (_:ty="str_ascii_iterator"∨ty="str_iterator"),PIE X pins σ tg R (.ref s1.heap.objs.size) {s1 with heap:=s1.heap.push {cls:=.type ty,data:=.fields #[.str z t,.int 0 0]}}:=fun ty hty=>by
  refine ⟨s1.heap.objs.size,[s1.heap.objs.size],_,_,H1,rfl,I1.kept (t':=s1.toks) fun b o e=>Heap.get?_push_of_some _ e,turn_str _ z t hty,⟨_,Heap.get?_push_size _ rfl,rfl,rfl⟩,fun b hb=>?_,q⟩
  have e:b=s1.heap.objs.size:=by simpa using hb
  subst e
  exact I1.fpOk (Nat.le_refl _) (I1.hok.fresh (Nat.le_refl _))
 cases ha:z.cps.all (· < 128) with
 | true=>exact wpAny_pyIter_ascii ha (fin _ (.inl rfl))
 | false=>exact wpAny_pyIter_wide ha (fin _ (.inr rfl))
end
section
variable {X:Cx} {e:Expr} {te:TE} {lo hi:Option Expr} {tl th:TO} {pos p2:Pos}
theorem op_le_str:OpR X (compareOp .LtE) (fun x y H Q=>∃i j,x=.str i∧y=.str j∧Q (.bl (!decide (j.cps.toList < i.cps.toList))) H):=by
 intro pins s σ H x y v u Q I rx ry h
 obtain ⟨i,j,rfl,rfl,q⟩:=h
 obtain ⟨t,rfl⟩:=rx
 obtain ⟨t',rfl⟩:=ry
 exact PySem.P.le_str (fin_bl I q rfl)
theorem le_one (c a:Nat):(!decide ((⟨#[c]⟩:Str).cps.toList < (⟨#[a]⟩:Str).cps.toList))=decide (a≤c):=by
 have h:((⟨#[c]⟩:Str).cps.toList < (⟨#[a]⟩:Str).cps.toList)↔c < a:=by
  show ([c]:List Nat) < [a]↔c < a
  simp [List.cons_lt_cons_iff]
 by_cases q:c < a
 ·rw [decide_eq_true (h.mpr q),decide_eq_false (by omega)]
  rfl
 ·rw [decide_eq_false fun z=>q (h.mp z),decide_eq_true (by omega)]
  rfl
theorem call_all (hc:X.calm=true):CallR X (.builtin "all") (fun xs H Q=>∃(p:Addr) (bs:List Bool),xs=[.ref p]∧SqL X.K H p (bs.map V.bl)∧Q (.bl (bs.all id)) H):=by
 intro pins s σ H xs us Q I r h
 obtain ⟨p,bs,rfl,hq,q⟩:=h
 obtain ⟨u,rfl,ru⟩:=vals1 r
 cases ru
 obtain ⟨its,rv,pl,hz⟩:=I.list hq
 have hlen:bs.length=its.length:=by have:=rv.length;rwa [List.length_map] at this
 obtain ⟨o,n,eo,_⟩:=id pl
 have hne:p≠s.heap.objs.size:=Nat.ne_of_lt (Heap.lt_size eo)
 have hh:X.A.in1.handled=none:=I.ok.hd hc
 refine call_all_walk (wpAny_pyIter_list pl.isList ?_)
 refine ⟨s.heap.objs.size,[s.heap.objs.size,p],[s.heap.objs.size],its.toArray.size,_,_,fun i=>bs.getD i false,rfl,Walks.list hh _ p hne its.toArray,⟨⟨_,Heap.get?_push_size _ rfl,rfl,rfl⟩,pl.isList.push _⟩,?_,fun h' tk k=>?_⟩
 ·intro i v s' Q' E' hP hQ
  have hP':its[i]?=some v:=by simpa using hP
  have hi:i < its.length:=(List.getElem?_eq_some_iff.mp hP').1
  have hb:(bs.map V.bl)[i]?=some (V.bl (bs.getD i false)):=by
   rw [List.getElem?_map,List.getElem?_eq_getElem (by omega:i < bs.length)]
   simp [List.getD,hlen▸hi]
  obtain ⟨u',e',r'⟩:=rv.get hb
  rw [hP'] at e'
  cases e'
  cases r'
  exact wpAny_truthy_bool hQ
 ·have e:(List.range its.toArray.size).all (fun i=>bs.getD i false)=bs.all id:=by
   rw [List.size_toArray,←hlen,Bool.eq_iff_iff]
   simp only [List.all_eq_true,List.mem_range]
   constructor
   ·intro a b hb
    obtain ⟨i,hi,rfl⟩:=List.mem_iff_getElem.mp hb
    have:=a i hi
    simpa [List.getD,hi] using this
   ·intro a i hi
    have:=a bs[i] (List.getElem_mem hi)
    simpa [List.getD,hi] using this
  rw [e]
  exact ⟨.bl (bs.all id),H,I.kept fun b ob z=>k b ob (by simpa using Nat.ne_of_lt (Heap.lt_size z)) (Heap.get?_push_of_some _ z),rfl,q⟩
theorem call_isi:CallR X (.builtin "isinstance") (fun xs H Q=>∃x c cv t b,xs=[x,c]∧(c=.ty cv∧TyOf X.K H x t∧PySem.W.kitOne X.K t (.type cv)=some b)∧Q (.bl b) H):=by
 intro pins s σ H xs us Q I r h
 obtain ⟨x,c,cv,t,b,rfl,⟨rfl,ty,e⟩,q⟩:=h
 obtain ⟨u,w',rfl,ru,rw'⟩:=vals2 r
 cases rw'
 exact isinst_ok I ru ty e fun tk=>⟨.bl b,H,I.tok tk,rfl,q⟩
end
mutual
inductive Dt (K:PySem.W.Frag) (H:Hp):V→PyData→Prop
 | non:Dt K H .non .none
 | bl (b:Bool):Dt K H (.bl b) (.bool b)
 | int (i:Int):Dt K H (.int i) (.int i)
 | str (x:Str):Dt K H (.str x) (.str x)
 | lst {a:Addr} {xs:List V} {ds:List PyData}:SqL K H a xs→Dts K H xs ds→Dt K H (.ref a) (.list ds)
 | tup {a:Addr} {xs:List V} {ds:List PyData}:SqT K H a xs→Dts K H xs ds→Dt K H (.ref a) (.tuple ds)
inductive Dts (K:PySem.W.Frag) (H:Hp):List V→List PyData→Prop
 | nil:Dts K H [] []
 | cons {v:V} {d:PyData} {vs:List V} {ds:List PyData}:Dt K H v d→Dts K H vs ds→Dts K H (v::vs) (d::ds)
end
section
variable {X:Cx} {pins:List (Addr × Obj)} {σ:St} {H:Hp} {s:Shared}
mutual
theorem dt_reads (I:Inv X pins σ H s):∀{v:V} {d:PyData} {u:Value},Dt X.K H v d→RelV v u→∃as,Reads s.heap u d as
 | _,_,_,.non,r=>by cases r;exact ⟨_,.none⟩
 | _,_,_,.bl b,r=>by cases r;exact ⟨_,.bool b⟩
 | _,_,_,.int i,r=>by obtain ⟨t,rfl⟩:=r;exact ⟨_,.int i t⟩
 | _,_,_,.str x,r=>by obtain ⟨t,rfl⟩:=r;exact ⟨_,.str x t⟩
 | _,_,_,.lst h ds,r=>by
  cases r
  obtain ⟨its,rv,⟨o,n,e,c,_,d⟩,_⟩:=I.list h
  obtain ⟨as,q⟩:=dts_reads I ds rv
  exact ⟨_,.list e c d (by simpa using q)⟩
 | _,_,_,.tup h ds,r=>by
  cases r
  obtain ⟨its,rv,⟨o,e,c,n,d⟩,_⟩:=I.tuple h
  obtain ⟨as,q⟩:=dts_reads I ds rv
  exact ⟨_,.tuple e c d (by simpa using q)⟩
theorem dts_reads (I:Inv X pins σ H s):∀{vs:List V} {ds:List PyData} {us:List Value},Dts X.K H vs ds→Vals vs us→∃as,ReadsAll s.heap us ds as
 | _,_,_,.nil,.nil=>⟨_,.nil⟩
 | _,_,_,.cons a b,.cons r t=>by
  obtain ⟨as,q⟩:=dt_reads I a r
  obtain ⟨bs,q'⟩:=dts_reads I b t
  exact ⟨_,.cons q q'⟩
end
end
section
variable {X:Cx}
noncomputable def rEqD (K:PySem.W.Frag) (neg:Bool):R2:=fun x y H Q=>∃d e,Dt K H x d∧Dt K H y e∧SeqAt.shaped d=true∧SeqAt.shaped e=true∧Q (.bl (if neg then !PyData.eqv d e else PyData.eqv d e)) H
theorem op_eqD (hu:X.A.units+64 < cLine):OpR X (compareOp .Eq) (rEqD X.K false):=by
 intro pins s σ H x y v u Q I rx ry h
 obtain ⟨d,e,hd,he,sd,se,q⟩:=h
 obtain ⟨as,ra⟩:=dt_reads I hd rx
 obtain ⟨bs,rb⟩:=dt_reads I he ry
 exact eq_dataH ra rb sd se hu ⟨.bl _,H,I,rfl,q⟩
theorem op_neD (hu:X.A.units+64 < cLine):OpR X (compareOp .NotEq) (rEqD X.K true):=by
 intro pins s σ H x y v u Q I rx ry h
 obtain ⟨d,e,hd,he,sd,se,q⟩:=h
 obtain ⟨as,ra⟩:=dt_reads I hd rx
 obtain ⟨bs,rb⟩:=dt_reads I he ry
 exact ne_dataH ra rb sd se hu ⟨.bl _,H,I,rfl,q⟩
end
mutual
theorem eqv_self:∀d:PyData,d.canLay0=true→PyData.eqv d d=true
 | .none,_=>rfl
 | .bool b,_=>by simp [PyData.eqv]
 | .int i,_=>by simp [PyData.eqv]
 | .str x,_=>by simp [PyData.eqv]
 | .list xs,h=>by simp only [PyData.eqv];exact eqvAll_self xs h
 | .tuple xs,h=>by simp only [PyData.eqv];exact eqvAll_self xs h
 | .dict _,h=>by cases h
theorem eqvAll_self:∀ds:List PyData,PyData.canLayAll0 ds=true→PyData.eqvAll ds ds=true
 | [],_=>rfl
 | d::r,h=>by
  simp only [PyData.canLayAll0,Bool.and_eq_true] at h
  simp only [PyData.eqvAll,eqv_self d h.1,eqvAll_self r h.2,Bool.and_self]
end
open PySem PySem.Spec PyProof.Rows L2
noncomputable def metS (val:Nat→Str):Nat→Str→Bool
 | 0=>fun _=>false
 | i+1=>fun k=>metS val i k || decide (k=val i)
noncomputable def cntS (val:Nat→Str):Nat→Nat
 | 0=>0
 | i+1=>if metS val i (val i) then cntS val i else cntS val i+1
theorem cntS_le (val:Nat→Str):∀i,cntS val i≤i
 | 0=>Nat.le_refl _
 | i+1=>by
  have:=cntS_le val i
  unfold cntS
  split <;> omega
theorem metS_iff (val:Nat→Str) (k:Str):∀i,metS val i k=true↔∃j,j < i∧val j=k
 | 0=>by simp [metS]
 | i+1=>by
  simp only [metS,Bool.or_eq_true,metS_iff val k i,decide_eq_true_eq]
  constructor
  ·rintro (⟨j,hj,e⟩ | e)
   ·exact ⟨j,by omega,e⟩
   ·exact ⟨i,by omega,e.symm⟩
  ·rintro ⟨j,hj,e⟩
   by_cases h:j=i
   ·subst h
    exact .inr e.symm
   ·exact .inl ⟨j,by omega,e⟩
theorem cntS_all (val:Nat→Str):∀n,(∀i j,i < j→j < n→val i≠val j)→cntS val n=n
 | 0,_=>rfl
 | n+1,h=>by
  have ih:=cntS_all val n fun i j a b=>h i j a (by omega)
  have hm:¬metS val n (val n)=true:=fun z=>by
   obtain ⟨j,hj,e⟩:=(metS_iff val (val n) n).mp z
   exact h j n hj (by omega) e
  unfold cntS
  rw [if_neg hm,ih]
theorem isS (x:Str) (t:Tok):Value.isStrOf x (.str x t)=true:=by simp [Value.isStrOf]
theorem set_turns {prog:Program} {w:World} {A:Around} {R:Result→Shared→Prop} {I:Addr} {fp wr:List Addr} {n:Nat} {Pv:Nat→Value→Prop} {St':Nat→Heap→Prop} (W:Walks prog w A.in1 I fp wr n Pv St') (S:Addr) (hSf:S∉fp)
  (val:Nat→Str) (hval:∀i v,Pv i v→∃t,v=.str (val i) t) (hb:n+1 < scanBound):∀(k i:Nat) (s:Shared),n - i=k→i≤n→St' i s.heap→s.heap.SetOf (strKind prog w) S (metS val i) (cntS val i)→
   (∀h' tk,(∀b o,b≠S→b∉wr→s.heap.get? b=some o→h'.get? b=some o)→h'.SetOf (strKind prog w) S (metS val n) (cntS val n)→R (.ok (.ret .none)) {s with heap:=h',toks:=tk})→
   codeAny (model prog w) A (.builtin "set.update.loop" ⟨[.ref S,.ref I],[]⟩) R s:=by
 have hSw:S∉wr:=fun z=>hSf (W.sub _ z)
 have stays:∀{h h':Heap} {S':Str→Bool} {m:Nat},(∀o,h.get? S=some o→h'.get? S=some o)→h.SetOf (strKind prog w) S S' m→h'.SetOf (strKind prog w) S S' m:=fun kk ⟨o,es,ep,t,ho,r⟩=>⟨o,es,ep,t,kk o ho,r⟩
 intro k
 induction k with
 | zero=>
  intro i s hk hi st hS hR
  obtain rfl:i=n:=by omega
  refine codeAny_builtin PyProof.Rows.F.entry_set_update_loop ?_
  rw [Around.under_plainId PyProof.Rows.F.plain_set_update_loop _]
  show wpAny _ A.in1 (pyNext (.ref I) >>=_) _ _ s
  refine wpAny_bind (W.done s _ _ st fun h' tk kk=>?_)
  show wpAny _ A.in1 (ret Value.none) _ _ _
  exact wpAny_pure (hR h' tk (fun b o _ hb e=>kk b o hb e) (stays (fun o e=>kk S o hSw e) hS))
 | succ k ih=>
  intro i s hk hi st hS hR
  have hlt:i < n:=by omega
  refine codeAny_builtin PyProof.Rows.F.entry_set_update_loop ?_
  rw [Around.under_plainId PyProof.Rows.F.plain_set_update_loop _]
  show wpAny _ A.in1 (pyNext (.ref I) >>=_) _ _ s
  refine wpAny_bind (W.item i s _ _ hlt st fun v h1 tk hP st1 kk=>?_)
  obtain ⟨t,rfl⟩:=hval i v hP
  have hS1:=stays (fun o e=>kk S o hSw e) hS
  show wpAny _ A.in1 (holding [Value.str (val i) t] (setAdd S (.str (val i) t)) >>=_) _ _ _
  refine wpAny_bind (wpAny_holding ?_)
  unfold setAdd
  refine wpAny_holding (wpAny_bind ((strKind prog w).pyHash (k:=val i) (isS (val i) t) ?_))
  have hroom:cntS val i+1 < scanBound:=by have:=cntS_le val i;omega
  refine wpAny_setAddHashed_of (knd:=strKind prog w) (isS (val i) t) rfl hS1 hroom fun h2 sb hS2=>?_
  refine wpAny_pure ⟨plainId_quiet PyProof.Rows.F.plain_set_update_loop _,ih (i+1) _ (by omega) hlt (W.frame _ _ _ st1 fun b hb' o e=>(sb.2 b fun z=>hSf (z▸hb')).trans e) hS2 fun h3 tk3 kk3 hS3=>?_⟩
  exact hR h3 tk3 (fun b o hb1 hb2 e=>kk3 b o hb1 hb2 ((sb.2 b hb1).trans (kk b o hb2 e))) hS3
set_option maxHeartbeats 8000000 in
theorem set_of_texts {prog:Program} {w:World} {A:Around} {E:Value→Shared→Prop} {s:Shared} {l:Addr} {items:Array Value} {val:Nat→Str} {Q:Value→Shared→Prop} (hh:A.handled=none) (hl:s.heap.IsList l items)
  (hval:∀(i:Nat) (v:Value),items[i]?=some v→∃t,v=.str (val i) t) (hb:items.size+1 < scanBound)
  (h:∀(h':Heap) (tk:Nat),h'.SetOf (strKind prog w) s.heap.objs.size (metS val items.size) (cntS val items.size)→(∀b o,s.heap.get? b=some o→h'.get? b=some o)→Q (.ref s.heap.objs.size) {s with heap:=h',toks:=tk}):
  wpAny (model prog w) A (call (.type "set") [.ref l]) Q E s:=by
 obtain ⟨c,tl,hmro⟩:=F.called_set.mro
 have m1:=F.called_set.made
 have m2:=F.called_set.sub
 have m3:=F.called_set.notType
 have m4:=F.called_set.canCreate
 have m5:=F.typeCall_set_1 (.ref l)
 refine wpAny_call (codeAny_of_tree ?_)
 show wpAny _ _ (callAny (.type "set") _) _ _ _
 refine wpAny_pure ⟨Code.quiet_builtin _ (by decide+kernel),codeAny_builtin F.entry_type_call ?_⟩
 rw [Around.under_plain (weight_type_call_type "set" [.ref l] []) rfl]
 repeat (any_goals (first | assumption | wp_step))
 generalize hS0:s.heap.objs.size=S at *
 refine codeAny_mono (code_set_new_1 (.ref l) (E:=E) (Q₁:=fun ob s1=>∃led:Bool,ob=.ref S∧s1={s with heap:=s.heap.push {cls:=.type "set",dict:=none,data:=.set #[] 0 (.fresh 0 0 led)}}) fun led=>⟨led,by rw [hS0],rfl⟩) fun r s1 hr=>?_
 cases r with
 | error e=>exact hr
 | ok fl=>
  cases fl with
  | ret ob=>
   obtain ⟨led,rfl,rfl⟩:=hr
   have hget:(s.heap.push {cls:=.type "set",dict:=none,data:=.set #[] 0 (.fresh 0 0 led)}).get? S=some {cls:=.type "set",dict:=none,data:=.set #[] 0 (.fresh 0 0 led)}:=by
    rw [←hS0]
    exact Heap.get?_push_size _ rfl
   have hT:Shared.TypeIs {s with heap:=s.heap.push {cls:=.type "set",dict:=none,data:=.set #[] 0 (.fresh 0 0 led)}} (.ref S) "set":=⟨_,hget,rfl⟩
   have n1:=F.called_set.init.lookup
   have n2:=F.called_set.init.bind (.ref S)
   repeat (any_goals (first | assumption | wp_step))
   refine codeAny_mono (codeAny_call_builtin (R:=wants (fun r s2=>r=.none∧∃h' tk,s2={s with heap:=h',toks:=tk}∧h'.SetOf (strKind prog w) S (metS val items.size) (cntS val items.size)∧(∀b o,s.heap.get? b=some o→h'.get? b=some o)) E)
    F.called_set.init.plain F.entry_set_init (check_set_init_1 hT ?_)) fun r2 s2 hr2=>?_
   ·obtain ⟨⟨oc,od,odt,osl⟩,hol,hcl,nl,hdl⟩:=id hl
    simp only at hcl hdl
    subst hcl hdl
    have hol':=Heap.get?_push_of_some (h:=s.heap) {cls:=.type "set",dict:=none,data:=.set #[] 0 (.fresh 0 0 led)} hol
    have p1:=F.sub_list_set
    have p2:=F.sub_list_frozenset
    have p3:(Value.type "list"==Value.type "dict")=false:=by decide
    have hl1:=hl.push (o:={cls:=.type "set",dict:=none,data:=.set #[] 0 (.fresh 0 0 led)})
    unfold Builtin.«set.__init__» noKeywords Builtin.Frozenset.updateFrom
    generalize hPI:pyIter=PI
    wp_walk
    subst hPI
    refine wpAny_pyIter_list hl1 (wpAny_bind (wpAny_runValue ?_))
    have hlS:l < S:=by rw [←hS0];exact Heap.lt_size hol
    have hsz:(s.heap.push {cls:=.type "set",dict:=none,data:=.set #[] 0 (.fresh 0 0 led)}).objs.size=S+1:=by rw [Heap.size_push,hS0]
    refine set_turns (Walks.list (A:=A.in1.in1.in1) (by simp [hh]) _ l (by rw [hsz];exact Nat.ne_of_lt (Nat.lt_succ_of_lt hlS)) items) S ?_ val hval hb (items.size - 0) 0 _ (by omega) (Nat.zero_le _) ⟨⟨_,Heap.get?_push_size _ rfl,rfl,rfl⟩,hl1.push _⟩ ?_ ?_
    ·rw [hsz]
     simp only [List.mem_cons,List.not_mem_nil,or_false,not_or]
     exact ⟨Nat.ne_of_lt (Nat.lt_succ_self _),Nat.ne_of_gt hlS⟩
    ·have hg2:=Heap.get?_push_of_some (h:=s.heap.push {cls:=.type "set",dict:=none,data:=.set #[] 0 (.fresh 0 0 led)}) {cls:=.type "list_iterator",data:=.fields #[.ref l,.int 0 0]} hget
     exact (PyProof.Rows.setObjOf_fresh (knd:=strKind prog w) led).setOf hg2 (by unfold scanBound;omega)
    ·intro h' tk kk hS'
     show wpAny _ _ _ _ _ _
     refine wpAny_pure ?_
     show wpAny _ _ (ret Value.none) _ _ _
     refine wpAny_pure ⟨rfl,h',tk,rfl,hS',fun b o e=>?_⟩
     have hbl:b < S:=by rw [←hS0];exact Heap.lt_size e
     exact kk b o (Nat.ne_of_lt hbl) (fun z=>Nat.ne_of_lt (Nat.lt_succ_of_lt hbl) (by rw [hsz] at z;simpa using z)) (Heap.get?_push_of_some _ (Heap.get?_push_of_some _ e))
   ·cases r2 with
    | error e=>exact hr2
    | ok fl2=>
     cases fl2 with
     | ret r=>
      obtain ⟨rfl,h',tk,rfl,hS',kk⟩:=hr2
      repeat (any_goals (first | assumption | wp_step))
      exact h _ _ hS' kk
     | _=>exact hr2.elim
  | _=>exact hr.elim
noncomputable def setO (P:Program) (w:World) (a:Addr) (n:Nat):HO:=.ext fun h=>∃S,h.SetOf (strKind P w) a S n
section
variable {X:Cx}
theorem call_set (hc:X.calm=true):CallR X (.type "set") (fun xs H Q=>∃(p:Addr) (ys:List Str),xs=[.ref p]∧SqL X.K H p (ys.map V.str)∧ys.length < 1000∧∀q,H q=none→Q (.ref q) (upd H q (setO X.prog X.w q (cntS (fun i=>ys.getD i Str.empty) ys.length)))):=by
 intro pins s σ H xs us Q I r h
 obtain ⟨p,ys,rfl,hq,hl,q⟩:=h
 obtain ⟨u,rfl,ru⟩:=vals1 r
 cases ru
 obtain ⟨its,rv,pl,hz⟩:=I.list hq
 have hlen:ys.length=its.length:=by have:=rv.length;rwa [List.length_map] at this
 have hsz:its.toArray.size=ys.length:=by
  rw [hlen]
  rfl
 refine set_of_texts (val:=fun i=>ys.getD i Str.empty) (I.ok.hd hc) pl.isList (fun i v e=>?_) (by rw [hsz];unfold scanBound;omega) fun h' tk hS kk=>?_
 ·have e':its[i]?=some v:=by simpa using e
  have hi:i < ys.length:=by rw [hlen];exact (List.getElem?_eq_some_iff.mp e').1
  have hb:(ys.map V.str)[i]?=some (V.str (ys.getD i Str.empty)):=by
   rw [List.getElem?_map,List.getElem?_eq_getElem hi]
   simp [List.getD,hi]
  obtain ⟨u',e2,r'⟩:=rv.get hb
  rw [e'] at e2
  cases e2
  exact r'
 ·rw [hsz] at hS
  refine ⟨.ref s.heap.objs.size,_,I.laid kk (Nat.le_refl _) ?_,rfl,q _ (I.hok.fresh (Nat.le_refl _))⟩
  obtain ⟨o,es,ep,t,ho,r'⟩:=id hS
  exact ⟨⟨_,hS⟩,⟨o,ho⟩,fun h1 h2 ⟨S',o',es',ep',t',ho',r2⟩ kk'=>⟨S',o',es',ep',t',kk' _ ho',r2⟩⟩
theorem call_len_setO:CallR X (.builtin "len") (fun xs H Q=>∃q n,xs=[.ref q]∧H q=some (setO X.prog X.w q n)∧Q (.int n) H):=by
 intro pins s σ H xs us Q I r h
 obtain ⟨a,n,rfl,hq,q⟩:=h
 obtain ⟨u,rfl,ru⟩:=vals1 r
 cases ru
 obtain ⟨⟨S,o,es,ep,t,ho,hex,hd,_,_,hb,hf,hn⟩,_,_⟩:=(show ObjOk X.prog X.w H s.heap a (setO X.prog X.w a n) from I.hok a _ hq)
 subst hn
 have hfit:(es.size:Int) < 2 ^ 63:=by unfold scanBound at hb;omega
 exact call_len_set ho hex hd hf hfit ⟨.int es.size,H,I.tok _,⟨_,rfl⟩,q⟩
end
open PySem PySem.Spec PyProof.Rows L2
theorem obj_at {P:Program} {w:World} {H:Hp} {h:Heap} {a:Addr} {o:HO} (x:ObjOk P w H h a o):∃ob,h.get? a=some ob:=by
 cases o with
 | lst xs=>obtain ⟨_,_,_,_,e⟩:=x;exact ⟨_,e⟩
 | tup xs=>obtain ⟨_,_,_,ob,e,_⟩:=x;exact ⟨ob,e⟩
 | dK kvs=>obtain ⟨_,_,_,_,ob,_,_,e,_⟩:=x;exact ⟨ob,e⟩
 | dT kvs=>obtain ⟨_,_,_,_,ob,_,_,e,_⟩:=x;exact ⟨ob,e⟩
 | set S n=>obtain ⟨ob,_,_,_,e,_⟩:=x;exact ⟨ob,e⟩
 | ins C dx fs=>obtain ⟨_,_,_,e,_⟩:=x;exact ⟨_,e⟩
 | own y=>obtain ⟨ob,e⟩:=x;exact ⟨ob,e⟩
 | xd fs=>obtain ⟨_,⟨ob,_,_,e,_⟩,_⟩:=x;exact ⟨ob,e⟩
 | rng lo hi=>obtain ⟨_,_,_,e⟩:=x;exact ⟨_,e⟩
 | frz ob u=>obtain ⟨e,_⟩:=x;exact ⟨_,e⟩
 | tbl ps=>exact ⟨_,(show h.get? a=some _ from x)⟩
 | met f y=>exact ⟨_,(show h.get? a=some _ from x)⟩
 | ext φ=>obtain ⟨_,⟨ob,e⟩,_⟩:=x;exact ⟨ob,e⟩
theorem hok_none {P:Program} {w:World} {H:Hp} {h:Heap} {a:Addr} (ok:HOk P w H h) (e:h.get? a=none):H a=none:=by
 cases q:H a with
 | none=>rfl
 | some o=>
  obtain ⟨ob,z⟩:=obj_at (ok a o q)
  rw [e] at z
  cases z
structure Thrown (P:Program) (w:World) (fr:List Env) (H:Hp) (s:Shared) (ea:Addr) (cls a0:Value) (H':Hp) (B:Heap) (s':Shared):Prop where
 fl:Heap.FlyingW B fr ea cls a0 s'.heap
 os:s'.os=s.os
 bare:AllBare s'.gens
 ok:HOk P w H' B
 un:Un (frs fr) [] H H' s.heap s'.heap
 inB:∀b o,s.heap.get? b=some o→b∉frs fr→∃o',B.get? b=some o'∧(H b=none→o'=o)
noncomputable def CXe (P:Program) (w:World):CXT:=fun fr H s E e s'=>∃(ea:Addr) (cls a0:Value) (H':Hp) (B:Heap),e=.ref ea∧Thrown P w fr H s ea cls a0 H' B s'∧E cls none H'
section
variable {P:Program} {w:World} {fr:List Env} {H H':Hp} {s s':Shared} {ea:Addr} {cls a0:Value} {B:Heap}
theorem Thrown.move (T:Thrown P w fr H s ea cls a0 H' B s') {h2:Heap} (fl:Heap.FlyingW B fr ea cls a0 h2) (up:s'.heap.UpToSlots h2):Thrown P w fr H s ea cls a0 H' B {s' with heap:=h2}:=by
 refine ⟨fl,T.os,T.bare,T.ok,⟨fun b o e n hb hx=>?_,fun b o e n hb hx=>?_,T.un.free,fun b o e hx=>?_,T.un.tups,T.un.frzs,T.un.tbls⟩,T.inB⟩
 ·obtain ⟨o',z,q⟩:=T.inB b o e hb
  rw [q n] at z
  exact fl.1 b o z
 ·obtain ⟨sl,z⟩:=T.un.slot b o e n hb hx
  obtain ⟨_,ob,e',nf⟩:=T.fl.2.2.1.mem hb
  rw [z] at e'
  cases e'
  obtain ⟨sl',z'⟩:=up b _ z nf
  exact ⟨sl',z'⟩
 ·by_cases hb:b∈frs fr
  ·obtain ⟨_,ob,e',nf⟩:=T.fl.2.2.1.mem hb
   obtain ⟨sl',z'⟩:=up b _ e' nf
   exact ⟨_,z'⟩
  ·obtain ⟨o',z,_⟩:=T.inB b o e hb
   exact ⟨o',fl.1 b o' z⟩
theorem Thrown.hok (T:Thrown P w fr H s ea cls a0 H' B s'):HOk P w H' s'.heap:=T.ok.kept fun b u e=>T.fl.1 b u e
theorem Thrown.new (T:Thrown P w fr H s ea cls a0 H' B s'):H' ea=none:=hok_none T.ok T.fl.2.1
theorem Thrown.notOld (T:Thrown P w fr H s ea cls a0 H' B s') {b:Addr} {o:Obj} (e:s.heap.get? b=some o):b≠ea:=by
 rintro rfl
 by_cases hb:b∈frs fr
 ·obtain ⟨_,ob,e',nf⟩:=T.fl.2.2.1.mem hb
  obtain ⟨oe,vs,he,_,hd,_⟩:=T.fl.first
  rw [he] at e'
  cases e'
  exact nf vs hd
 ·obtain ⟨o',z,_⟩:=T.inB b o e hb
  rw [T.fl.2.1] at z
  cases z
end
section
variable {P:Program} {w:World} {K:PySem.W.Frag} {mg:Str→Option Value} {base:Heap} {N:List Str} {qual:Str} {scope:Scope} {f:Addr} {cdv:Value} {A:Around} {outer:List Env} {s:Shared} {H:Hp} {E:XK}
noncomputable abbrev cxE (P:Program) (w:World) (K:PySem.W.Frag) (mg:Str→Option Value) (base:Heap) (N:List Str) (qual:Str) (scope:Scope) (f:Addr) (cdv:Value) (A:Around) (outer:List Env) (s:Shared) (H:Hp) (E:XK):Cx:=
 cxOf (CXe P w) P w K mg base N qual scope f cdv A outer s H E
theorem stk_new {pins:List (Addr × Obj)} {σ:St} {H1:Hp} {s1:Shared} (I:Inv (cxE P w K mg base N qual scope f cdv A outer s H E) pins σ H1 s1) {b:Addr} {o:Obj} (e:s.heap.get? b=some o) (hb:b∉frs outer):
  b∉frs (cxE P w K mg base N qual scope f cdv A outer s H E).stack:=fun z=>by
 rcases List.mem_cons.mp (I.stkSub b z) with q | q
 ·have l:=Heap.lt_size e
  have l2:s.heap.objs.size≤b:=by
   have:=I.ok.above
   rw [←q] at this
   exact this
  exact Nat.lt_irrefl _ (Nat.lt_of_lt_of_le l l2)
 ·exact hb q
theorem made_leaves {pins:List (Addr × Obj)} {σ:St} {H1:Hp} {s1:Shared} {h':Heap} {ea:Addr} {cls:Value} {vs:List Value} (I:Inv (cxE P w K mg base N qual scope f cdv A outer s H E) pins σ H1 s1)
  (hx:Heap.MadeExcOf s1.heap h' ea cls vs) (hE:E cls none H1):(cxE P w K mg base N qual scope f cdv A outer s H E).xe (.ref ea) {s1 with heap:=h'}:=by
 have hfr:=I.ok.frames
 have hin:∀env∈(cxE P w K mg base N qual scope f cdv A outer s H E).stack,∀b,env.frame=some b→b∈frs (cxE P w K mg base N qual scope f cdv A outer s H E).stack:=fun env he b hb=>List.mem_filterMap.mpr ⟨env,he,hb⟩
 have hnt:∀b o,H1 b=some o→b∉frs (cxE P w K mg base N qual scope f cdv A outer s H E).stack:=fun b o e z=>by rw [I.stkFree b z] at e;cases e
 refine wpAny_leaves_madeW (base:=PySem.W.hideAll s1.heap (frs (cxE P w K mg base N qual scope f cdv A outer s H E).stack)) hfr rfl (fun b o q=>PySem.W.of_hideAll _ q) (PySem.W.funFrames_hide I.stack hin) hx fun h2 t x1 x2 x3 x4=>?_
 have inB:∀b o,s1.heap.get? b=some o→b∉frs (cxE P w K mg base N qual scope f cdv A outer s H E).stack→(PySem.W.hideAll s1.heap (frs (cxE P w K mg base N qual scope f cdv A outer s H E).stack)).get? b=some o:=fun b o e n=>PySem.W.hideAll_get _ e n
 refine ⟨ea,cls,.ref t,H1,_,rfl,⟨x1,I.os,I.bare,fun b ob e=>(I.hok b ob e).stay (fun c u hc q=>inB c u q ?_) (fun _ q=>q) fun _ _ q=>q,⟨fun b o e n hb hx'=>?_,fun b o e n hb hx'=>?_,I.base.free,fun b o e hx'=>?_,I.base.tups,I.base.frzs,I.base.tbls⟩,fun b o e hb=>?_⟩,hE⟩
 ·rcases hc with rfl | hc
  ·exact hnt c _ e
  ·exact hnt c _ hc
 ·exact x1.1 b o (inB b o (I.base.keep b o e n hb hx') (stk_new I e hb))
 ·obtain ⟨sl,z⟩:=I.base.slot b o e n hb hx'
  obtain ⟨_,ob,e',nf⟩:=I.funs.mem hb
  rw [z] at e'
  cases e'
  obtain ⟨sl',z'⟩:=x4 b _ (hx.keeps _ _ z) nf
  exact ⟨sl',z'⟩
 ·obtain ⟨o',z⟩:=I.base.there b o e hx'
  by_cases hb:b∈frs outer
  ·obtain ⟨_,ob,e',nf⟩:=I.funs.mem hb
   obtain ⟨sl',z'⟩:=x4 b _ (hx.keeps _ _ e') nf
   exact ⟨_,z'⟩
  ·exact ⟨o',x1.1 b o' (inB b o' z (stk_new I e hb))⟩
 ·obtain ⟨o',z⟩:=I.base.there b o e (by simp [cxE,cxOf])
  refine ⟨o',inB b o' z (stk_new I e hb),fun n=>?_⟩
  have z2:=I.base.keep b o e n hb (by simp [cxE,cxOf])
  rw [z] at z2
  exact Option.some.inj z2
theorem pass_on:Passes (CXe P w) (cxE P w K mg base N qual scope f cdv A outer s H E) E:=by
 rintro pins σ Hc sc e s' I ⟨ea,cls,a0,H',B,rfl,T,hE⟩
 refine wpAny_leaves_onW I.ok.frames rfl T.fl fun h2 x1 x2=>?_
 have T2:Un (frs (cxE P w K mg base N qual scope f cdv A outer s H E).stack) [] Hc H' sc.heap s'.heap:=T.un
 have oldB:∀b o,s.heap.get? b=some o→b∉frs outer→∃o',B.get? b=some o'∧(H b=none→o'=o):=fun b o e hb=>by
  obtain ⟨o1,z⟩:=I.base.there b o e (by simp [cxE,cxOf])
  obtain ⟨o',z',q⟩:=T.inB b o1 z (stk_new I e hb)
  refine ⟨o',z',fun n=>?_⟩
  have z2:=I.base.keep b o e n hb (by simp [cxE,cxOf])
  rw [z] at z2
  cases z2
  exact q (I.base.free b _ e n (by simp [cxE,cxOf]))
 refine ⟨ea,cls,a0,H',B,rfl,⟨x1,T.os.trans I.os,T.bare,T.ok,⟨fun b o e n hb hx'=>?_,fun b o e n hb hx'=>?_,fun b o e n hx'=>?_,fun b o e hx'=>?_,fun b xs q=>T.un.tups b xs (I.base.tups b xs q),fun b o u q=>T.un.frzs b o u (I.base.frzs b o u q),fun b ps q=>?_⟩,oldB⟩,hE⟩
 ·obtain ⟨o',z,q⟩:=oldB b o e hb
  rw [q n] at z
  exact x1.1 b o z
 ·obtain ⟨sl,z⟩:=I.base.slot b o e n hb hx'
  have hb':b∈frs (cxE P w K mg base N qual scope f cdv A outer s H E).stack:=by
   show b∈frs (_::outer)
   unfold frs
   rw [List.filterMap_cons]
   exact List.mem_cons_of_mem _ hb
  obtain ⟨sl2,z2⟩:=T2.slot b _ z (I.base.free b o e n hx') hb' (by simp)
  obtain ⟨_,ob,e',nf⟩:=T.fl.2.2.1.mem hb'
  rw [z2] at e'
  cases e'
  obtain ⟨sl',z'⟩:=x2 b _ z2 nf
  exact ⟨sl',z'⟩
 ·obtain ⟨o1,z⟩:=I.base.there b o e hx'
  exact T2.free b o1 z (I.base.free b o e n hx') (by simp)
 ·by_cases hb:b∈frs outer
  ·obtain ⟨_,ob,e',nf⟩:=x1.2.2.1.mem hb
   exact ⟨ob,e'⟩
  ·obtain ⟨o',z,_⟩:=oldB b o e hb
   exact ⟨o',x1.1 b o' z⟩
 ·obtain ⟨m1,e1⟩:=I.base.tbls b ps q
  obtain ⟨m2,e2⟩:=T.un.tbls b _ e1
  exact ⟨m1++m2,by rw [e2,Array.append_assoc]⟩
structure Exc (K:PySem.W.Frag) (mg:Str→Option Value) (x:Str) (C:Addr) (bm:List Value) (newId:String):Prop where
 bound:mg x=some (.ref C)
 obj:PySem.W.excIn K C bm newId=true
theorem Exc.own {x:Str} {C:Addr} {bm:List Value} {newId:String} {h:Heap} (e:Exc K mg x C bm newId) (X:K.In h):OwnCls x C bm newId mg h:=by
 refine ⟨e.bound,?_⟩
 have q:=e.obj
 unfold PySem.W.excIn at q
 split at q
 ·rename_i dd cd sl ho
  split at q
  ·rename_i C' bm' k0 k1 k2 k3 n k5 hm hs
   simp only [Bool.and_eq_true,beq_iff_eq,Bool.not_eq_true'] at q
   obtain ⟨⟨⟨⟨⟨rfl,rfl⟩,hdel⟩,ht⟩,hok⟩,hni⟩:=q
   obtain ⟨nm,bs,mro,ns,qn,hd,sn,sub,ab,col,del⟩:=cd
   dsimp only at hm hdel hok hni
   subst hm hdel
   obtain ⟨sll⟩:=sl
   simp only at hs
   subst hs
   exact ⟨bm',ns,nm,qn,bs,hd,sn,sub,ab,col,dd,k0,k1,k2,k3,k5,_,X _ _ ho,.of_isNs (PySem.W.isNs_of_in X hok),PySem.W.nsMap_none_of_in X hok hni,PySem.W.tail_of_in X ht⟩
  ·cases q
 ·cases q
noncomputable def tRaise (C:Addr) (E:XK) (ta:TA):TS:=fun _ σ H=>ta σ H fun vs H1=>vs.length≤sizeLine∧E (.ref C) none H1
theorem ps_raise {x:Str} {C:Addr} {B newId initId:String} {bm:List Value} {np cpos pos:Pos} {e0:Expr} {es:List Expr} {ta:TA} (F:ExcBaseFacts B newId initId bm) (O:Exc K mg x C bm newId)
  (hg:Gl (cxE P w K mg base N qual scope f cdv A outer s H E) x) (ha:PA (cxE P w K mg base N qual scope f cdv A outer s H E) (e0::es) ta) (hdb:(x==("__debug__":Str))=false:=by decide)
  (he:starEach (e0::es) (cxE P w K mg base N qual scope f cdv A outer s H E).env=(false,eval e0 (cxE P w K mg base N qual scope f cdv A outer s H E).env)::starEach es (cxE P w K mg base N qual scope f cdv A outer s H E).env:=by rfl)
  (hpl:(backTo cpos (starEach es (cxE P w K mg base N qual scope f cdv A outer s H E).env)).any (·.1)=false:=by rfl):
  PS (cxE P w K mg base N qual scope f cdv A outer s H E) (.Raise (some (.Call (.Name x np) (e0::es) [] cpos)) none pos) (tRaise C E ta):=by
 intro pins s1 σ H1 D I h
 obtain ⟨tl,Nn,nm,q,bs,hdct,sn,sub,ab,col,dd,k0,k1,k2,k3,k5,mN,hC,hN,hni,T⟩:=(O.own I.mod.kin).obj
 have hcl:PySem.W.excIn K C bm newId=true:=O.obj
 refine wpAny_Raise_call_subT (C:=C) (nm:=nm) (q:=q) (N:=Nn) (bs:=bs) (bm:=tl) (hdct:=hdct) (sn:=sn) (sub:=sub) (ab:=ab) (col:=col) (dd:=dd) (k0:=k0) (k1:=k1) (k2:=k2) (k3:=k3) (k5:=k5)
  F (mN:=mN) (T.hasType F.hasBase) (I.ok.hd rfl) ?_ hni (ld_glob I hg O.bound ⟨rfl,?_⟩ hdb)
 ·rw [he]
  show (false || (backTo cpos (starEach es (cxE P w K mg base N qual scope f cdv A outer s H E).env)).any (·.1))=false
  rw [hpl]
  rfl
 ·have hA:=ha cpos pins s1 σ H1 _ I h
  rw [he] at hA ⊢
  refine Calls.evalArgs_plain (thn hA fun us s2 ⟨vs,H2,I2,r2,z,hE⟩=>⟨rfl,by rw [←r2.length];exact z,I2.bk _ _ hC,hN.keeps I2.bk,T.keeps I2.bk,fun h' ea hm=>made_leaves I2 hm hE⟩)
theorem okE {x:Str} {st:Stmt} {fd:FuncData} {ps:List Str} {k:Nat} {sp:Sp} (F:Fun K x qual st f fd) (S:FnScope N ps (defScope st)) (len:∀vs H Q E,sp vs H Q E→vs.length=ps.length)
  (hbody:∀(cdv:Value) (A:Around) (outer:List Env) (s:Shared) (H:Hp) (vs:List V) (Q:VK) (E:XK),Room k (A.deeper (envOfC qual (defScope st) s.heap.objs.size f cdv))→sp vs H Q E→
   ∃t,PSs (cxE P w K mg base N qual (defScope st) f cdv A outer s H E) (defBody st) t∧t {nx:=fun _ H'=>Q .non H',rt:=Q} (start N vs) H):FnOk P w K mg base (CXe P w) (k+1) f fd ps sp:=by
 obtain ⟨oc,od,kV,doc,pm,an,cdv,ct,osl,rfl,lk,hcd⟩:=F.ex
 exact fn_of lk hcd S len fun A outer s H vs Q E hr hsp=>hbody cdv A outer s H vs Q E hr hsp
end
open PySem PySem.Spec PyProof.Rows L2
noncomputable abbrev TEx:=XK→TE
noncomputable abbrev TSx:=Ends→(St→XK)→St→Hp→Prop
section
variable {X:Cx} {e o:Expr} {es:List Expr} {pos apos p:Pos} {k:Nat} {f C:Addr} {fd:FuncData} {ps:List Str} {sp:Sp} {ta:TE} {t:TA} {m x:Str}
theorem noW {α:Type} {X:Cx} {pins:List (Addr × Obj)} {M:Model} {A:Around} {c:Sem α} {Q:α→Shared→Prop} {E:Value→Shared→Prop} {s:Shared} (h:wpAny M A c Q (fun _ _=>False) s):wpAny M A c Q E s:=
 wpAny_mono h (fun _ _ q=>q) fun _ _ z=>False.elim z
noncomputable def tMethX (C:Addr) (m:Str) (sp:Sp) (ta:TE) (t:TA):TEx:=fun E=>tMeth C m sp [] E ta t
end
noncomputable def excSub (K:PySem.W.Frag) (C R:Addr):Bool:=match K.lookup C with
 | some ⟨.type "type",_,.cls cd,sl⟩=>(match cd.mro,sl.toList with
  | .ref C'::bm,[_,_,_,_,some (.builtin _),_]=>C'==C && !cd.hasDel && bm.contains (.type "BaseException") && (Value.ref C::bm).contains (.ref R)
  | _,_=>false)
 | _=>false
theorem excSub_obj {K:PySem.W.Frag} {h:Heap} {C R:Addr} (X:K.In h) (q:excSub K C R=true):∃nm qn N bs bm hdct sn sub ab col dd k0 k1 k2 k3 k5 newId,
  h.get? C=some (excClassObj nm qn C N bs bm hdct sn sub ab col dd k0 k1 k2 k3 k5 newId)∧bm.contains (.type "BaseException")=true∧(Value.ref C::bm).contains (.ref R)=true:=by
 unfold excSub at q
 split at q
 ·rename_i dd cd sl ho
  split at q
  ·rename_i C' bm k0 k1 k2 k3 n k5 hm hs
   simp only [Bool.and_eq_true,Bool.not_eq_true'] at q
   obtain ⟨⟨⟨q1,hdel⟩,hb⟩,hr⟩:=q
   have q1:=beq_iff_eq.mp q1
   subst q1
   obtain ⟨nm,bs,mro,ns,qn,hd,sn,sub,ab,col,del⟩:=cd
   dsimp only at hm hdel
   subst hm hdel
   obtain ⟨sll⟩:=sl
   simp only at hs
   subst hs
   exact ⟨nm,qn,ns,bs,bm,hd,sn,sub,ab,col,dd,k0,k1,k2,k3,k5,n,X _ _ ho,hb,hr⟩
  ·cases q
 ·cases q
theorem exc_hit {M:Model} {A:Around} {E:Value→Shared→Prop} {K:PySem.W.Frag} {C R ea:Addr} {s:Shared} {oe:Obj} {Q:Bool→Shared→Prop} (X:K.In s.heap) (hc:excSub K C R=true) (hr:excSub K R R=true) (he:s.heap.get? ea=some oe)
  (hcls:oe.cls=.ref C) (hq:Q true s):wpAny M A (excMatches (.ref ea) (.ref R)) Q E s:=by
 obtain ⟨nm,qn,N,bs,bm,hdct,sn,sub,ab,col,dd,k0,k1,k2,k3,k5,newId,hC,hb,hCR⟩:=excSub_obj X hc
 obtain ⟨nm',qn',N',bs',bm',hdct',sn',sub',ab',col',dd',k0',k1',k2',k3',k5',newId',hR,hb',hRR⟩:=excSub_obj X hr
 have hcB:(Value.ref R::bm').contains (.type "BaseException")=true:=by rw [List.contains_cons,hb',Bool.or_true]
 have f:=tc_notTuple
 obtain ⟨hp,g,d,t,os⟩:=s
 unfold excMatches
 repeat (first | (with_reducible refine wpAny_loadPart_at he ?_;rw [hcls]) | with_reducible refine wpAny_loadPart_at hR ?_ | (with_reducible refine wpAny_isSubtype_exc hR ?_;rw [hcB]) | (with_reducible refine wpAny_isSubtype_exc hC ?_;rw [hCR]) | wp_step)
 exact hq
noncomputable abbrev inSuite (X:Cx) (ea:Addr):Cx:={X with A:=X.A.mark (some (.ref ea)),calm:=false,xe:=fun _ _=>False}
section
variable {X:Cx} {pins:List (Addr × Obj)} {σ:St} {H:Hp} {s:Shared}
theorem Inv.suite (I:Inv X pins σ H s) (ea:Addr):Inv (inSuite X ea) pins σ H s:=
 ⟨⟨I.ok.mod,I.ok.kind,I.ok.glob,I.ok.blt,I.ok.above,I.ok.inj,I.ok.has,I.ok.cab,fun z=>absurd (show false=true from z) Bool.false_ne_true,I.ok.frames,I.ok.stk,I.ok.exf,I.ok.bs,I.ok.bsz,I.ok.noex,I.ok.exfs,I.ok.funs,I.ok.frf⟩,I.os,I.bare,I.base,I.loc,I.cell,I.free,I.freeC,I.pin,I.hok,I.len⟩
theorem Inv.unsuite {ea:Addr} (hd:X.calm=true→X.A.handled=none) (I:Inv (inSuite X ea) pins σ H s):Inv X pins σ H s:=
 ⟨⟨I.ok.mod,I.ok.kind,I.ok.glob,I.ok.blt,I.ok.above,I.ok.inj,I.ok.has,I.ok.cab,hd,I.ok.frames,I.ok.stk,I.ok.exf,I.ok.bs,I.ok.bsz,I.ok.noex,I.ok.exfs,I.ok.funs,I.ok.frf⟩,I.os,I.bare,I.base,I.loc,I.cell,I.free,I.freeC,I.pin,I.hok,I.len⟩
theorem Inv.forget {h':Heap} {t':Nat} {i:Nat} {x:Str} (I:Inv X pins σ H s) (hN:X.N.Nodup) (hi:X.N[i]?=some x) (hs:Heap.SameBut X.env.locals s.heap h')
  (hns:∀m,s.heap.Ns X.env.locals m→∃v,h'.Ns X.env.locals (fun y=>if y=x then v else m y)):Inv X pins (σ.set i none) H {s with heap:=h',toks:=t'}:=by
 obtain ⟨m,hn,hl⟩:=id I.loc
 obtain ⟨v,hn'⟩:=hns m hn
 have cne:=I.cne
 have ne0:∀b o,X.s₀.heap.get? b=some o→b≠X.env.locals:=fun b o e=>Nat.ne_of_lt (Nat.lt_of_lt_of_le (Heap.lt_size e) I.ok.above)
 have hiσ:i < σ.length:=by rw [I.len];exact (List.getElem?_eq_some_iff.mp hi).1
 refine ⟨I.ok,I.os,I.bare,⟨fun b o e n hb hx=>(hs.2 b (ne0 b o e)).trans (I.base.keep b o e n hb hx),fun b o e n hb hx=>?_,I.base.free,fun b o e hx=>?_,I.base.tups,I.base.frzs,I.base.tbls⟩,⟨_,hn',fun j y u e1 e2 e3=>?_⟩,fun y c e=>?_,I.free,I.freeC,fun p hp=>?_,hok_but I.hok I.free hs,by simpa using I.len⟩
 ·obtain ⟨sl,z⟩:=I.base.slot b o e n hb hx
  exact ⟨sl,(hs.2 b (ne0 b o e)).trans z⟩
 ·obtain ⟨o',z⟩:=I.base.there b o e hx
  exact ⟨o',(hs.2 b (ne0 b o e)).trans z⟩
 ·by_cases hj:j=i
  ·subst hj
   rw [List.getElem?_set_self hiσ] at e2
   cases e2
  ·rw [List.getElem?_set_ne (Ne.symm hj)] at e2
   obtain ⟨u',r',q⟩:=hl j y u e1 e2 e3
   refine ⟨u',r',?_⟩
   rcases q with ⟨k,e⟩ | ⟨k,c,e,z⟩
   ·refine .inl ⟨k,?_⟩
    have:y≠x:=fun e=>hj (nodup_ix hN e1 (e▸hi))
    simp [this,e]
   ·exact .inr ⟨k,c,e,z.sameBut hs (cne y c e)⟩
 ·obtain ⟨w',z⟩:=I.cell y c e
  exact ⟨w',z.sameBut hs (cne y c e)⟩
 ·obtain ⟨e,n,ne,nf,d⟩:=I.pin p hp
  exact ⟨(hs.2 p.1 ne).trans e,n,ne,nf,d⟩
end
open PySem PySem.Spec PyProof.Rows L2
theorem bt_enumerate:bootBuiltins "enumerate"=some (.type "enumerate"):=by decide+kernel
noncomputable def Ite (K:PySem.W.Frag) (a:Addr):It:=
 ⟨fun i H=>∃xs x,SqL K H a xs∧xs[i]?=some x,fun i H v H'=>∃p x,H p=none∧v=.ref p∧(∀xs,SqL K H a xs→xs[i]?=some x)∧H'=upd H p (.tup [.int i,x]),fun i H=>∃xs,SqL K H a xs∧xs.length≤i⟩
theorem turn_enum {P:Program} {w:World} {K:PySem.W.Frag} {elts:List Expr} {k:Nat} {pos:Pos} (a e it:Addr) (hei:e≠it):
  Turn P w K (.Tuple elts k pos) (Ite K a) [e,it] e (fun i h=>(∃old,IsEnum h e it ((i:Nat):Int) old)∧h.IsListIter it a i) where
 mem:=by simp
 obj:=fun i h st b hb=>by
  obtain ⟨⟨old,he⟩,o,ho,c,d⟩:=st
  rcases List.mem_cons.mp hb with rfl | hb
  ·exact ⟨_,he,fun v z=>by
    have z':Data.fields _=Data.cell v:=z
    cases z'⟩
  ·have q:b=it:=by simpa using hb
   subst q
   exact ⟨o,ho,fun v z=>by rw [d] at z;cases z⟩
 keep:=fun i h h' st kk=>by
  obtain ⟨⟨old,he⟩,hit⟩:=st
  exact ⟨⟨old,kk e (by simp) _ he⟩,hit.at fun o q=>kk it (by simp) o q⟩
 item:=by
  intro X hP hw hK hc i pins s σ H E I hf st hg
  subst hP hw hK
  obtain ⟨⟨old,he⟩,hit⟩:=st
  obtain ⟨xs,x,hq,hx⟩:=hg
  obtain ⟨its,rv,p,hz⟩:=I.list hq
  obtain ⟨u,hu,ru⟩:=rv.get hx
  obtain ⟨e0,e1,e2,e3,e4,e5⟩:=hf e (by simp)
  obtain ⟨f0,f1,f2,f3,f4,f5⟩:=hf it (by simp)
  refine wpAny_pyNext_enum_item he hit p.isList (x:=u) (by simpa using hu) hei fun h1 ho hit1 hT hsz hk=>⟨_,rfl,?_⟩
  refine wpAny_letOwnedTupleGo_enum ho fun h2 he2 hs2=>?_
  have hs2:Heap.SameBut e h1 h2:=hs2
  have hn:H s.heap.objs.size=none:=I.fresh
  have old2:∀b o,b∉[e,it]→s.heap.get? b=some o→h2.get? b=some o:=fun b o hb q=>by
   have hbe:b≠e:=fun z=>hb (by simp [z])
   have hbi:b≠it:=fun z=>hb (by simp [z])
   exact (hs2.2 b hbe).trans (hk b o hbe hbi q)
  have helt:e < s.heap.objs.size:=Heap.lt_size he
  have hT2:h2.get? s.heap.objs.size=some {cls:=.type "tuple",data:=.seq #[.int i s.toks,u]}:=(hs2.2 _ (Nat.ne_of_gt helt)).trans hT
  have nch:∀b q,H b=some q→b∉[e,it]:=fun b q hb z=>by
   rcases List.mem_cons.mp z with rfl | z
   ·rw [e0] at hb;cases hb
   ·have z':b=it:=by simpa using z
    subst z'
    rw [f0] at hb;cases hb
  refine ⟨.ref s.heap.objs.size,upd H s.heap.objs.size (.tup [.int i,x]),?_,rfl,⟨s.heap.objs.size,x,hn,rfl,fun ys hy=>by rw [I.list_inj hy hq];exact hx,rfl⟩,⟨⟨u,?_⟩,hit1.at fun o q=>(hs2.2 it hei.symm).trans q⟩,fun b hb=>?_⟩
  ·show Inv X pins σ (upd H s.heap.objs.size (.tup [.int i,x])) {s with heap:=h2,gens:=s.gens,drawn:=s.drawn,toks:=s.toks+1}
   refine I.step (g':=s.gens) (d':=s.drawn) (t':=s.toks+1) (h':=h2) (ch:=[e,it]) (fun b hb=>?_) (fun b o _ _ hc q _=>old2 b o hc q) (fun b o _ _ hc q _=>⟨o.slots,old2 b o hc q⟩) (fun b o hc q n=>?_)
    (fun b o hc q=>⟨o,old2 b o hc q⟩) (fun b ys q=>?_) (fun b o v q=>?_) (fun b ps q=>⟨#[],?_⟩) (fun m hm=>?_) (fun b v q=>?_) I.bare
   ·rcases List.mem_cons.mp hb with rfl | hb
    ·exact ⟨e3,e1,e4,e5⟩
    ·have z':b=it:=by simpa using hb
     subst z'
     exact ⟨f3,f1,f4,f5⟩
   ·rw [upd_ne (Nat.ne_of_lt (Heap.lt_size q))]
    exact n
   ·rw [upd_ne (ne_of_none q hn)]
    exact q
   ·rw [upd_ne (ne_of_none q hn)]
    exact q
   ·rw [upd_ne (ne_of_none q hn),q]
    simp
   ·obtain ⟨o,es,ep,ho',r⟩:=hm
    refine ⟨o,es,ep,old2 _ o (fun z=>?_) ho',r⟩
    rcases List.mem_cons.mp z with z | z
    ·exact e1 z.symm
    ·exact f1 (by simpa using z:X.env.locals=it).symm
   ·by_cases hb:b=s.heap.objs.size
    ·subst hb
     rw [upd_same] at q
     cases q
     exact ⟨(by show 2≤sizeLine;decide),[.int i s.toks,u],.cons ⟨_,rfl⟩ (.cons ru .nil),_,hT2,rfl,_,rfl⟩
    ·rw [upd_ne hb] at q
     refine (I.hok b v q).stay (fun c y hc z=>old2 c y ?_ z) (fun c z=>by rw [upd_ne (ne_of_none z hn)];exact z) fun c ys z=>by rw [upd_ne (ne_of_none z hn)];exact z
     rcases hc with rfl | hc
     ·exact nch _ _ q
     ·exact nch _ _ hc
  ·have:(((i+1:Nat):Nat):Int)=(i:Int)+1:=by omega
   rw [this]
   exact he2
  ·rcases List.mem_cons.mp hb with rfl | hb
   ·rw [upd_ne (Nat.ne_of_lt helt)]
    exact e0
   ·have z':b=it:=by simpa using hb
    subst z'
    obtain ⟨_,z,_⟩:=hit
    rw [upd_ne (Nat.ne_of_lt (Heap.lt_size z))]
    exact f0
 done:=by
  intro X hP hw hK hc i pins s σ H E I hf st hg
  subst hP hw hK
  obtain ⟨⟨old,he⟩,hit⟩:=st
  obtain ⟨xs,hq,hx⟩:=hg
  obtain ⟨its,rv,p,hz⟩:=I.list hq
  obtain ⟨f0,f1,f2,f3,f4,f5⟩:=hf it (by simp)
  have hl:=rv.length
  exact wpAny_pyNext_enum_end (I.ok.hd hc) he hit p.isList (by simp;omega) fun h' eb=>⟨rfl,I.turned (t':=s.toks) (fun b o hb e=>eb b o hb e) f0 f1 f3 f4 f5⟩
 self:=fun _ _ _ _ _ st h=>by
  obtain ⟨⟨old,he⟩,_⟩:=st
  exact wpAny_pyIter_enum he h
section
variable {X:Cx} {elts:List Expr} {k:Nat} {tpos:Pos}
noncomputable def iEnum (K:PySem.W.Frag) (ta:TA):TI:=fun σ H R=>ta σ H fun vs H1=>∃a,vs=[.ref a]∧(∃xs,SqL K H1 a xs)∧R (Ite K a) H1
theorem pi_enum {l:Expr} {ta:TA} {p pos:Pos} (hg:Gl X "enumerate") (hm:X.mg "enumerate"=none) (ha:PA X [l] ta) (hs:starEach [l] X.env=[(false,eval l X.env)]:=by rfl):PI X (.Tuple elts k tpos) (.Call (.Name "enumerate" p) [l] [] pos) (iEnum X.K ta):=by
 intro pins s σ H R I h
 refine Call_ (ld_blt I hg hm bt_enumerate (PyProof.Rows.callWith_type1 (thn (ha pos pins s σ H _ I h) fun us s1 ⟨vs,H1,I1,r1,q1⟩=>?_) hs rfl))
 obtain ⟨a,e,⟨xs,hq⟩,q⟩:=q1
 subst e
 cases r1 with
 | cons r rr=>
  cases rr
  cases r
  obtain ⟨its,rv,p,hz⟩:=I1.list hq
  refine call_enumerate_list p.isList fun h' he hit hsz kk=>?_
  refine wpAny_pyIter_enum he ?_
  have ne:s1.heap.objs.size+1≠s1.heap.objs.size:=Nat.succ_ne_self _
  refine ⟨s1.heap.objs.size+1,[s1.heap.objs.size+1,s1.heap.objs.size],_,_,H1,rfl,I1.kept (t':=s1.toks) fun b o e=>kk b o e,turn_enum a _ _ ne,⟨⟨_,he⟩,hit⟩,fun b hb=>?_,q⟩
  rcases List.mem_cons.mp hb with rfl | hb
  ·exact I1.fpOk (Nat.le_succ _) (I1.hok.fresh (Nat.le_succ _))
  ·have z:b=s1.heap.objs.size:=by simpa using hb
   subst z
   exact I1.fpOk (Nat.le_refl _) (I1.hok.fresh (Nat.le_refl _))
end
section
variable {X:Cx} {K:PySem.W.Frag} (hK:X.K=K)
include hK
theorem ix_listK:IxR X (rIxL K):=by subst hK;exact ix_list
theorem ix_tupK:IxR X (rIxT K):=by subst hK;exact ix_tup
theorem pg_tupK {pos:Pos} {es:List Expr} {k:Nat} {t:TGs} {n:Nat} (hc:X.calm=true) (h:PGs X es t)
  (hn:(assignEach es X.env).length=n:=by rfl) (hst:(assignEach es X.env).findIdx? (·.1)=none:=by rfl):PG X (.Tuple es k pos) (gTup K n t):=by
 subst hK
 exact pg_tup hc h hn hst
theorem pe_fldK {e:Expr} {ta:TE} {f:Str} {pos:Pos} (he:PE X e ta) (hb:attributeBase e f X.env (eval e X.env)=eval e X.env):PE X (.Attribute e f pos) (tFld K ta f):=by subst hK;exact pe_fld he hb
end
theorem lc_enum {K:PySem.W.Frag} {a:Addr} {xs:List V} {cs:List (Option Nat)} {σ rest:L2.St} {tt:TT} {te:TE} {Q:VK} {H1:Hp} (hcs:caps cs σ=none::none::rest) (ha:SqL K H1 a xs) (hl:xs.length < sizeLine) (p:Nat→V→Bool) (f:Nat→V→V)
  (test:∀(i:Nat) (x:V) (H2:Hp) (R:Bool→Hp→Prop),xs[i]?=some x→Same H1 H2→(∀H5,Same H2 H5→R (p i x) H5)→tt (some (.int i)::some x::rest) H2 R)
  (elt:∀(i:Nat) (x:V) (H2:Hp) (R:VK),xs[i]?=some x→p i x=true→Same H1 H2→(∀H5,Same H2 H5→R (f i x) H5)→te (some (.int i)::some x::rest) H2 R)
  (fin:∀(D:Addr) (H':Hp),H1 D=none→H' D=some (.lst ((xs.zipIdx.filter fun z=>p z.2 z.1).map fun z=>f z.2 z.1))→Same H1 H'→Q (.ref D) H'):
  ∀D,H1 D=none→∃W:Nat→Nat→List V→L2.St→Hp→Prop,(∃m,W 0 m [] (caps cs σ) (upd H1 D (.lst [])))∧∀i m ys σ' H',W i m ys σ' H'→H' D=some (.lst ys)∧ys.length < sizeLine∧
   (((Ite K a).stop i H'∧Q (.ref D) H')∨((Ite K a).go i H'∧∀x H2,(Ite K a).yld i H' x H2→gTup K 2 (gCons (gName 0) (gCons (gName 1) gNil)) x σ' H2 fun σ3 H3=>tt σ3 H3 fun b H4=>
    if b=true then te σ3 H4 fun y H5=>H5 D=some (.lst ys)∧∃m',m' < m∧W (i+1) m' (ys++[y]) σ3 (upd H5 D (.lst (ys++[y])))
    else ∃m',m' < m∧W (i+1) m' ys σ3 H4)):=by
 intro D hD
 have zl:xs.zipIdx.length=xs.length:=by simp
 refine ⟨fun i m ys σ' H'=>m=xs.length - i∧i≤xs.length∧ys=((xs.zipIdx.take i).filter fun z=>p z.2 z.1).map (fun z=>f z.2 z.1)∧(∃o o',σ'=o::o'::rest)∧Same H1 H'∧H' D=some (.lst ys),
  ⟨xs.length,by simp,Nat.zero_le _,by simp,⟨none,none,hcs⟩,fun b o e=>?_,upd_same⟩,?_⟩
 ·rw [upd_ne (ne_of_none e hD)]
  exact e
 ·rintro i m ys σ' H' ⟨rfl,hi,rfl,⟨o,o',rfl⟩,sm,hHD⟩
  have hL:SqL K H' a xs:=sm.seq ha
  refine ⟨hHD,Nat.lt_of_le_of_lt ?_ hl,?_⟩
  ·rw [List.length_map]
   refine Nat.le_trans (List.length_filter_le _ _) ?_
   rw [List.length_take,zl]
   exact Nat.min_le_right _ _
  by_cases hlt:i < xs.length
  ·have ex:xs[i]?=some xs[i]:=List.getElem?_eq_getElem hlt
   refine .inr ⟨⟨xs,_,hL,ex⟩,fun x H2 y=>?_⟩
   obtain ⟨q,x',hq,rfl,hx',rfl⟩:=y
   have exx:=hx' xs hL
   have sq:Same H' (upd H' q (.tup [.int i,x'])):=fun b u e=>by rw [upd_ne (ne_of_none e hq)];exact e
   refine ⟨q,_,rfl,SqT.of upd_same,rfl,⟨_,_,rfl,⟨_,_,rfl,rfl,?_⟩⟩⟩
   show tt (some (.int i)::some x'::rest) _ _
   refine test i x' _ _ exx (sm.trans sq) fun H4 s4=>?_
   have tk:xs.zipIdx.take (i+1)=xs.zipIdx.take i++[(x',i)]:=by
    rw [List.take_add_one,List.getElem?_zipIdx,exx]
    simp
   have hD4:=s4 _ _ (sq _ _ hHD)
   cases hp:p i x' with
   | true=>
    refine iteT ?_
    refine elt i x' H4 _ exx hp ((sm.trans sq).trans s4) fun H5 s5=>⟨s5 _ _ hD4,xs.length - (i+1),by omega,rfl,hlt,?_,⟨_,_,rfl⟩,fun b ob e=>?_,upd_same⟩
    ·rw [tk,List.filter_append,List.map_append]
     simp [hp]
    ·rw [upd_ne (ne_of_none e hD)]
     exact s5 _ _ (s4 _ _ (sq _ _ (sm _ _ e)))
   | false=>
    refine iteF ⟨xs.length - (i+1),by omega,rfl,hlt,?_,⟨_,_,rfl⟩,(sm.trans sq).trans s4,hD4⟩
    rw [tk,List.filter_append,List.map_append]
    simp [hp]
  ·have e:i=xs.length:=by omega
   subst e
   refine .inl ⟨⟨xs,hL,Nat.le_refl _⟩,fin D H' hD ?_ sm⟩
   rw [hHD,←zl,List.take_length]
end L3
namespace L2
open PySem PySem.Spec PyProof.Rows
section
variable {κ:Type} [DecidableEq κ]
noncomputable def valV (kvs:List (κ × V)) (k:κ):Option V:=(kvs.find? fun kv=>decide (kv.1=k)).map (·.2)
noncomputable def putK (kvs:List (κ × V)) (k:κ) (v:V):List (κ × V):=
 if (kvs.any fun kv=>decide (kv.1=k))=true then kvs.map (fun kv=>if kv.1=k then (kv.1,v) else kv) else kvs++[(k,v)]
theorem valV_pos {p:κ × V} {r:List (κ × V)} {k:κ} (e:p.1=k):valV (p::r) k=some p.2:=by simp [valV,List.find?_cons,e]
theorem valV_neg {p:κ × V} {r:List (κ × V)} {k:κ} (e:¬p.1=k):valV (p::r) k=valV r k:=by simp [valV,List.find?_cons,e]
theorem valV_any (k:κ):∀kvs:List (κ × V),(kvs.any fun kv=>decide (kv.1=k))=(valV kvs k).isSome
 | []=>rfl
 | p::r=>by
  rw [List.any_cons]
  by_cases e:p.1=k
  ·simp only [valV_pos e,decide_eq_true e,Bool.true_or,Option.isSome_some]
  ·rw [valV_neg e,decide_eq_false e,Bool.false_or];exact valV_any k r
theorem valV_map (k j:κ) (y:V):∀kvs:List (κ × V),valV (kvs.map fun kv=>if kv.1=k then (kv.1,y) else kv) j=(valV kvs j).map fun x=>if j=k then y else x
 | []=>rfl
 | p::r=>by
  have ih:=valV_map k j y r
  rw [List.map_cons]
  by_cases h:p.1=k
  ·rw [if_pos h]
   by_cases e:p.1=j
   ·rw [valV_pos (p:=(p.1,y)) e,valV_pos e,Option.map_some,if_pos (e.symm.trans h)]
   ·rw [valV_neg (p:=(p.1,y)) e,valV_neg e,ih]
  ·rw [if_neg h]
   by_cases e:p.1=j
   ·rw [valV_pos (p:=p) e,valV_pos e,Option.map_some,if_neg (fun z=>h (e.trans z))]
   ·rw [valV_neg (p:=p) e,valV_neg e,ih]
theorem valV_snoc (k j:κ) (y:V):∀kvs:List (κ × V),valV kvs k=none→valV (kvs++[(k,y)]) j=if j=k then some y else valV kvs j
 | [],_=>by
  by_cases e:k=j
  ·rw [if_pos e.symm];exact valV_pos (p:=(k,y)) e
  ·rw [if_neg (fun z=>e z.symm)];exact valV_neg (p:=(k,y)) e
 | p::r,hn=>by
  rw [List.cons_append]
  have hk:¬p.1=k:=fun z=>by rw [valV_pos z] at hn;cases hn
  rw [valV_neg hk] at hn
  have ih:=valV_snoc k j y r hn
  by_cases e:p.1=j
  ·rw [valV_pos e,valV_pos e,if_neg (fun z=>hk (e.trans z))]
  ·rw [valV_neg e,valV_neg e,ih]
theorem valV_put (kvs:List (κ × V)) (k j:κ) (y:V):valV (putK kvs k y) j=if j=k then some y else valV kvs j:=by
 unfold putK
 by_cases a:(kvs.any fun kv=>decide (kv.1=k))=true
 ·rw [if_pos a,valV_map]
  rw [valV_any] at a
  by_cases e:j=k
  ·obtain ⟨x,hx⟩:=Option.isSome_iff_exists.mp a
   rw [if_pos e,e,hx,Option.map_some,if_pos rfl]
  ·rw [if_neg e]
   cases valV kvs j with
   | none=>rfl
   | some x=>rw [Option.map_some,if_neg e]
 ·rw [if_neg a]
  refine valV_snoc k j y kvs ?_
  rw [valV_any] at a
  cases q:valV kvs k with
  | none=>rfl
  | some x=>rw [q] at a;exact (a rfl).elim
theorem length_putK (kvs:List (κ × V)) (k:κ) (v:V):(putK kvs k v).length≤kvs.length+1:=by
 unfold putK
 split
 ·rw [List.length_map];omega
 ·rw [List.length_append,List.length_cons,List.length_nil];omega
theorem putK_new {kvs:List (κ × V)} {k:κ} (v:V) (h:valV kvs k=none):putK kvs k v=kvs++[(k,v)]:=by
 unfold putK
 rw [valV_any,h]
 exact if_neg (by decide)
theorem RelO.isSome_eq {o:Option V} {u:Option Value} (r:RelO o u):o.isSome=u.isSome:=by
 cases o with
 | none=>cases u with
  | none=>rfl
  | some _=>exact (show False from r).elim
 | some _=>cases u with
  | none=>exact (show False from r).elim
  | some _=>rfl
theorem RelO.getD {o:Option V} {u:Option Value} {d:V} {d':Value} (r:RelO o u) (rd:RelV d d'):RelV (o.getD d) (u.getD d'):=by
 cases o with
 | none=>cases u with
  | none=>exact rd
  | some _=>exact (show False from r).elim
 | some _=>cases u with
  | none=>exact (show False from r).elim
  | some _=>exact r
theorem KV.val {kvs:List (κ × V)} {vs:List (κ × Value)} (r:KV kvs vs) (k:κ):RelO (valV kvs k) (valueAt vs k):=by
 unfold KV at r
 induction r with
 | nil=>exact True.intro
 | @cons p q ps qs h t ih=>
  obtain ⟨h1,h2⟩:=h
  by_cases e:p.1=k
  ·have e':q.1=k:=h1.symm.trans e
   have b:valueAt (q::qs) k=some q.2:=by simp [valueAt,List.find?_cons,e']
   rw [valV_pos e,b];exact h2
  ·have e':¬q.1=k:=fun z=>e (h1.trans z)
   have b:valueAt (q::qs) k=valueAt qs k:=by simp [valueAt,List.find?_cons,e']
   rw [valV_neg e,b];exact ih
theorem KV.any {kvs:List (κ × V)} {vs:List (κ × Value)} (r:KV kvs vs) (k:κ):(kvs.any fun kv=>decide (kv.1=k))=vs.any fun kv=>decide (kv.1=k):=by
 unfold KV at r
 induction r with
 | nil=>rfl
 | cons h t ih=>rw [List.any_cons,List.any_cons,ih,h.1]
theorem KV.repl {kvs:List (κ × V)} {vs:List (κ × Value)} (r:KV kvs vs) (k:κ) {y:V} {u:Value} (ry:RelV y u):
  KV (kvs.map fun kv=>if kv.1=k then (kv.1,y) else kv) (vs.map fun kv=>if kv.1=k then (kv.1,u) else kv):=by
 unfold KV at r ⊢
 induction r with
 | nil=>exact .nil
 | @cons p q ps qs h t ih=>
  rw [List.map_cons,List.map_cons]
  refine .cons ?_ ih
  obtain ⟨h1,h2⟩:=h
  by_cases e:p.1=k
  ·rw [if_pos e,if_pos (h1.symm.trans e)];exact ⟨h1,ry⟩
  ·rw [if_neg e,if_neg (fun z=>e (h1.trans z))];exact ⟨h1,h2⟩
theorem KV.put {kvs:List (κ × V)} {vs:List (κ × Value)} (r:KV kvs vs) (k:κ) {y:V} {u:Value} (ry:RelV y u):KV (putK kvs k y) (stored vs k u):=by
 unfold putK stored
 rw [r.any k]
 by_cases e:(vs.any fun kv=>decide (kv.1=k))=true
 ·rw [if_pos e,if_pos e];exact r.repl k ry
 ·rw [if_neg e,if_neg e];exact Paired.snoc r ⟨rfl,ry⟩
theorem KV.length {kvs:List (κ × V)} {vs:List (κ × Value)} (r:KV kvs vs):kvs.length=vs.length:=Paired.length r
end
theorem kV_is {P:Program} {w:World} {k:Key} {u:Value} (r:RelV (kV k) u):(mixKind P w).is k u=true:=by
 cases k with
 | inl i=>obtain ⟨t,e⟩:=(show ∃t,u=Value.int i t from r);subst e;exact mixKind_int P w i t
 | inr x=>obtain ⟨t,e⟩:=(show ∃t,u=Value.str x t from r);subst e;exact mixKind_str P w x t
theorem items_are {P:Program} {w:World}:∀{ks:List Key} {us:List Value},Vals (ks.map kV) us→ItemsAre (mixKind P w) ks us
 | [],_,r=>by rw [List.map_nil] at r;cases r;exact .nil
 | k::ks,_,r=>by
  rw [List.map_cons] at r
  cases r with
  | cons h t=>exact .cons (kV_is h) (items_are t)
noncomputable abbrev KT (H:Hp):List (List Key × V)→List (List Key × Addr × Value)→Prop:=Paired fun p q=>p.1=q.1∧H q.2.1=some (.tup (p.1.map kV))∧RelV p.2 q.2.2
theorem KT.val {H:Hp} {kvs:List (List Key × V)} {xs:List (List Key × Addr × Value)} (r:KT H kvs xs) (k:List Key):RelO (valV kvs k) ((atKey xs k).map (·.2)):=by
 induction r with
 | nil=>exact True.intro
 | @cons p q ps qs h t ih=>
  obtain ⟨h1,_,h2⟩:=h
  by_cases e:p.1=k
  ·have e':q.1=k:=h1.symm.trans e
   have b:atKey (q::qs) k=some q.2:=by simp [atKey,List.find?_cons,e']
   rw [valV_pos e,b];exact h2
  ·have e':¬q.1=k:=fun z=>e (h1.trans z)
   have b:atKey (q::qs) k=atKey qs k:=by simp [atKey,List.find?_cons,e']
   rw [valV_neg e,b];exact ih
theorem KT.repl {H:Hp} {kvs:List (List Key × V)} {xs:List (List Key × Addr × Value)} (r:KT H kvs xs) (k:List Key) {y:V} {u:Value} (ry:RelV y u):
  KT H (kvs.map fun kv=>if kv.1=k then (kv.1,y) else kv) (xs.map (putAt k u)):=by
 induction r with
 | nil=>exact .nil
 | @cons p q ps qs h t ih=>
  rw [List.map_cons,List.map_cons]
  refine .cons ?_ ih
  obtain ⟨h1,h2,h3⟩:=h
  unfold putAt
  by_cases e:p.1=k
  ·rw [if_pos e,if_pos (h1.symm.trans e)];exact ⟨h1,h2,ry⟩
  ·rw [if_neg e,if_neg (fun z=>e (h1.trans z))];exact ⟨h1,h2,h3⟩
theorem KT.put {H:Hp} {kvs:List (List Key × V)} {xs:List (List Key × Addr × Value)} (r:KT H kvs xs) (k:List Key) {b:Addr} {y:V} {u:Value} (hb:H b=some (.tup (k.map kV))) (ry:RelV y u):
  KT H (putK kvs k y) (storedH xs k b u):=by
 have e:(kvs.any fun kv=>decide (kv.1=k))=(atKey xs k).isSome:=by
  rw [valV_any,(r.val k).isSome_eq,Option.isSome_map]
 unfold putK storedH
 rw [e]
 by_cases q:(atKey xs k).isSome=true
 ·rw [if_pos q,if_pos q];exact r.repl k ry
 ·rw [if_neg q,if_neg q];exact Paired.snoc r ⟨rfl,hb,ry⟩
theorem KT.keeps {H H':Hp} {kvs:List (List Key × V)} {xs:List (List Key × Addr × Value)} (r:KT H kvs xs) (ht:∀b ys,H b=some (.tup ys)→H' b=some (.tup ys)):KT H' kvs xs:=
 Paired.mapP r fun _ _ z=>⟨z.1,ht _ _ z.2.1,z.2.2⟩
section
variable {P:Program} {w:World} {H:Hp} {h:Heap} {a:Addr}
theorem rd_of {u:HO} (ok:HOk P w H h) (e:Rd H a u):ObjOk P w H h a u:=e.ok ok
theorem dk_rd {kvs:List (Key × V)} (ok:HOk P w H h) (e:Rd H a (.dK kvs)):kvs.length≤sizeLine∧(a==sysModules)=false∧∃vs,KV kvs vs∧h.DictOf (mixKind P w) a vs:=
 show ObjOk P w H h a (.dK kvs) from rd_of ok e
theorem dk_of {kvs:List (Key × V)} (ok:HOk P w H h) (e:H a=some (.dK kvs)):kvs.length≤sizeLine∧(a==sysModules)=false∧∃vs,KV kvs vs∧h.DictOf (mixKind P w) a vs:=dk_rd ok (.inl e)
theorem key_of {ks:List Key} (ok:HOk P w H h) (e:H a=some (.tup (ks.map kV))):(tupleKind (mixKind P w)).is h ks a:=by
 obtain ⟨_,its,r,o,h1,h2,n,h3⟩:=(show ObjOk P w H h a (.tup (ks.map kV)) from ok a _ e)
 exact ⟨o,its.toArray,n,h1,h2,h3,by simpa using items_are r⟩
theorem dt_rd {kvs:List (List Key × V)} (ok:HOk P w H h) (e:Rd H a (.dT kvs)):kvs.length≤sizeLine∧(a==sysModules)=false∧
  ∃xs,KT H kvs xs∧h.DictOfH (tupleKind (mixKind P w)) a xs:=by
 obtain ⟨z,y,xs,r,o,es,ep,h1,h2,h3,h4,h5⟩:=(show ObjOk P w H h a (.dT kvs) from rd_of ok e)
 refine ⟨z,y,xs,r,o,es,ep,h1,h2,h3,h4,fun x hx=>?_,h5⟩
 have all:∀{l:List (List Key × V)} {m:List (List Key × Addr × Value)},KT H l m→∀x∈m,(tupleKind (mixKind P w)).is h x.1 x.2.1:=by
  intro l m q
  induction q with
  | nil=>intro x hx;exact nomatch hx
  | @cons p q ps qs hq t ih=>
   intro x hx
   rcases List.mem_cons.mp hx with e | hx
   ·subst e
    exact key_of ok (by rw [←hq.1];exact hq.2.1)
   ·exact ih x hx
 exact all r x hx
theorem dt_of {kvs:List (List Key × V)} (ok:HOk P w H h) (e:H a=some (.dT kvs)):kvs.length≤sizeLine∧(a==sysModules)=false∧
  ∃xs,KT H kvs xs∧h.DictOfH (tupleKind (mixKind P w)) a xs:=dt_rd ok (.inl e)
end
noncomputable def DGet (H:Hp) (a:Addr) (y:V) (r:Option V):Prop:=
 (∃kvs k,Rd H a (.dK kvs)∧y=kV k∧r=valV kvs k)∨∃kvs k b,Rd H a (.dT kvs)∧y=.ref b∧H b=some (.tup (k.map kV))∧r=valV kvs k
noncomputable def DPut (H:Hp) (a:Addr) (y v:V) (H':Hp):Prop:=
 (∃kvs k,H a=some (.dK kvs)∧y=kV k∧kvs.length < sizeLine∧H'=upd H a (.dK (putK kvs k v)))∨
 ∃kvs k b,H a=some (.dT kvs)∧y=.ref b∧H b=some (.tup (k.map kV))∧kvs.length < sizeLine∧H'=upd H a (.dT (putK kvs k v))
theorem DGet.k {H:Hp} {a:Addr} {kvs:List (Key × V)} {k:Key} (e:H a=some (.dK kvs)):DGet H a (kV k) (valV kvs k):=.inl ⟨kvs,k,.inl e,rfl,rfl⟩
theorem DGet.t {H:Hp} {a b:Addr} {kvs:List (List Key × V)} {k:List Key} (e:H a=some (.dT kvs)) (eb:H b=some (.tup (k.map kV))):DGet H a (.ref b) (valV kvs k):=.inr ⟨kvs,k,b,.inl e,rfl,eb,rfl⟩
theorem DPut.k {H:Hp} {a:Addr} {kvs:List (Key × V)} {k:Key} {v:V} (e:H a=some (.dK kvs)) (hl:kvs.length < sizeLine):DPut H a (kV k) v (upd H a (.dK (putK kvs k v))):=.inl ⟨kvs,k,e,rfl,hl,rfl⟩
theorem DPut.t {H:Hp} {a b:Addr} {kvs:List (List Key × V)} {k:List Key} {v:V} (e:H a=some (.dT kvs)) (eb:H b=some (.tup (k.map kV))) (hl:kvs.length < sizeLine):
  DPut H a (.ref b) v (upd H a (.dT (putK kvs k v))):=.inr ⟨kvs,k,b,e,rfl,eb,hl,rfl⟩
section
variable {X:Cx} {pins:List (Addr × Obj)} {σ:St} {H:Hp} {s:Shared} {a:Addr} {y v:V} {u r:Value} {o:Option V} {A:Around} {E:Value→Shared→Prop}
theorem Inv.big (I:Inv X pins σ H s):sysModules < s.heap.objs.size:=by
 have h:mainGlobals < s.heap.objs.size:=(I.mod.glob.keeps I.bk).lt
 exact Nat.lt_trans (by decide) h
theorem d_getItem {Q:Value→Shared→Prop} (hu:A.units+1 < cLine) (I:Inv X pins σ H s) (g:DGet H a y (some v)) (ry:RelV y u) (h:∀w' s',Inv X pins σ H s'→RelV v w'→Q w' s'):
  wpAny (model X.prog X.w) A (getItem (.ref a) u) Q E s:=by
 rcases g with ⟨kvs,k,e,ey,l⟩ | ⟨kvs,k,b,e,ey,eb,l⟩
 ·subst ey
  obtain ⟨z,hd,vs,rel,dd⟩:=dk_rd I.hok e
  obtain ⟨w',hw,rw'⟩:=RelO.some_of (v:=v) (o:=valueAt vs k) (by rw [l];exact rel.val k)
  exact wpAny_getItem_of (kV_is ry) dd.mapOf hw (h w' _ (I.tok _) rw')
 ·subst ey
  cases (show u=Value.ref b from ry)
  obtain ⟨z,hd,xs,rel,dd⟩:=dt_rd I.hok e
  obtain ⟨w',hw,rw'⟩:=RelO.some_of (v:=v) (o:=(atKey xs k).map (·.2)) (by rw [l];exact rel.val k)
  obtain ⟨p,hp,hp2⟩:=Option.map_eq_some_iff.mp hw
  refine wpAny_getItem_heap (tupleKind_room_in1 hu) (key_of I.hok eb) dd hp ?_
  rw [hp2]
  exact h w' _ (I.tok _) rw'
theorem d_notIn {Q:Value→Shared→Prop} (hu:A.units+1 < cLine) (I:Inv X pins σ H s) (g:DGet H a y o) (ry:RelV y u) (h:∀s',Inv X pins σ H s'→Q (.bool (!o.isSome)) s'):
  wpAny (model X.prog X.w) A (compareOp .NotIn u (.ref a)) Q E s:=by
 rcases g with ⟨kvs,k,e,ey,l⟩ | ⟨kvs,k,b,e,ey,eb,l⟩
 ·subst ey
  obtain ⟨z,hd,vs,rel,dd⟩:=dk_rd I.hok e
  refine wpAny_notIn_of (kV_is ry) hd dd.mapOf ?_
  rw [←(rel.val k).isSome_eq,←l]
  exact h _ (I.tok _)
 ·subst ey
  cases (show u=Value.ref b from ry)
  obtain ⟨z,hd,xs,rel,dd⟩:=dt_rd I.hok e
  refine wpAny_notIn_heap (tupleKind_room_in1 hu) (key_of I.hok eb) hd dd ?_
  have q:=(rel.val k).isSome_eq
  rw [Option.isSome_map] at q
  rw [←q,←l]
  exact h _ (I.tok _)
theorem d_write {h':Heap} {t':Nat} {ob:HO} (I:Inv X pins σ H s) (mu:Mut (H a)) (hs:Heap.SameBut a s.heap h') (he:∃q,h'.get? a=some q) (new:ObjOk X.prog X.w (upd H a ob) h' a ob):
  Inv X pins σ (upd H a ob) {s with heap:=h',toks:=t'}:=
 I.write (x:=a) (e:=a) mu (.inl rfl) (fun b q hb z=>(hs.2 b hb).trans z) he new
theorem dk_new {P:Program} {w:World} {H':Hp} {h':Heap} {kvs:List (Key × V)} {vs:List (Key × Value)} (z:kvs.length≤sizeLine) (hd:(a==sysModules)=false) (rel:KV kvs vs) (dd:h'.DictOf (mixKind P w) a vs):
  ObjOk P w H' h' a (.dK kvs):=⟨z,hd,vs,rel,dd⟩
theorem d_setItem {H':Hp} {Q:Unit→Shared→Prop} (hu:A.units+1 < cLine) (I:Inv X pins σ H s) (g:DPut H a y v H') (ry:RelV y u) (rv:RelV v r) (h:∀s',Inv X pins σ H' s'→Q () s'):
  wpAny (model X.prog X.w) A (setItem (.ref a) u r) Q E s:=by
 rcases g with ⟨kvs,k,e,ey,l,eH⟩ | ⟨kvs,k,b,e,ey,eb,l,eH⟩
 ·subst ey eH
  obtain ⟨z,hd,vs,rel,dd⟩:=dk_of I.hok e
  have hz:vs.length≤sizeLine:=by rw [←rel.length];exact z
  have hl:(putK kvs k v).length≤sizeLine:=by have:=length_putK kvs k v;omega
  refine wpAny_setItem_pairs (hsz:=hz) (kV_is ry) dd fun h' dd' hs=>h _ ?_
  have he:∃q,h'.get? a=some q:=let ⟨q,_,_,hq,_⟩:=dd';⟨q,hq⟩
  exact d_write I (by rw [e];exact True.intro) hs he (dk_new hl hd (rel.put k rv) dd')
 ·subst ey eH
  cases (show u=Value.ref b from ry)
  obtain ⟨z,hd,xs,rel,dd⟩:=dt_of I.hok e
  have hz:xs.length≤sizeLine:=by rw [←Paired.length rel];exact z
  have hl:(putK kvs k v).length≤sizeLine:=by have:=length_putK kvs k v;omega
  refine wpAny_setItem_heap (hsz:=hz) (tupleKind_room_in1 hu) (key_of I.hok eb) dd fun h' dd' hs=>h _ ?_
  obtain ⟨q,es,ep,hq,h2,h3,h4,_,h5⟩:=dd'
  refine d_write I (by rw [e];exact True.intro) hs ⟨q,hq⟩ ⟨hl,hd,_,(rel.put k eb rv).keeps fun c ys ec=>?_,q,es,ep,hq,h2,h3,h4,h5⟩
  rw [upd_ne (ne_of ec e (fun z=>nomatch z))]
  exact ec
end
noncomputable def NoSl (i:Expr):Prop:=∀ov iv,subscripted i false ov iv=operate [ov,iv] (getItem ov iv)
theorem subD_of {prog:Program} {w:World} {A:Around} {E:Value→Shared→Prop} {s:Shared} {env:Env} {value slice:Expr} {pos:Pos} {T id:String} {Q:Value→Shared→Prop}
  (hl:typeLookup (.type T) "__getitem__"=pure (some (.builtin id))) (hs:NoSl slice)
  (h:wpAny (model prog w) A (eval value env) (fun o s₁=>wpAny (model prog w) A (eval slice env) (fun i s₂=>s₂.TypeIs o T∧wpAny (model prog w) A (getItem o i) Q E s₂) E s₁) E s):
  wpAny (model prog w) A (eval (.Subscript value slice pos) env) Q E s:=by
 refine Subscript_ (wpAny_mono h (fun o s₁ h₁=>wpAny_mono h₁ (fun i s₂ h₂=>?_) fun _ _ x=>x) fun _ _ x=>x)
 obtain ⟨hT,h₂⟩:=h₂
 unfold subscriptTail
 refine wpAny_bind ?_
 rw [getitemInPython_of_ne hT.not_modules]
 refine wpAny_bind (wpAny_specialOf hT hl ?_)
 have fin:wpAny (model prog w) A (subscripted slice false o i) (fun r s₃=>wpAny (model prog w) A (letTemporaryGo value o r >>=fun _=>pure r) Q E s₃) E s₂:=by
  rw [hs o i]
  exact wpAny_operating (wpAny_mono h₂ (fun r s₃ h₃=>wpAny_bind (wpAny_letTemporaryGo (wpAny_pure h₃))) fun _ _ x=>x)
 first
  | exact wpAny_pure (wpAny_bind fin)
  | exact wpAny_bind (wpAny_pure (wpAny_bind fin))
  | exact wpAny_bind fin
theorem dict_typeIs {X:Cx} {pins:List (Addr × Obj)} {σ:St} {H:Hp} {s:Shared} {a:Addr} {y:V} {o:Option V} (I:Inv X pins σ H s) (g:DGet H a y o):s.TypeIs (.ref a) "dict":=by
 rcases g with ⟨kvs,k,e,_,_⟩ | ⟨kvs,k,b,e,_,_,_⟩
 ·obtain ⟨_,_,vs,_,dd⟩:=dk_rd I.hok e
  exact dd.typeIs
 ·obtain ⟨_,_,xs,_,dd⟩:=dt_rd I.hok e
  exact dd.typeIs
noncomputable def tDGet (td ty:TE):TE:=fun σ H Q=>td σ H fun x H1=>ty σ H1 fun y H2=>∃a v,x=.ref a∧DGet H2 a y (some v)∧Q v H2
noncomputable def tDNotIn (ty td:TE):TE:=fun σ H Q=>ty σ H fun y H1=>td σ H1 fun x H2=>∃a o,x=.ref a∧DGet H2 a y o∧Q (.bl (!o.isSome)) H2
noncomputable def sDPut (td ty tv:TE):TS:=fun D σ H=>tv σ H fun v H1=>td σ H1 fun x H2=>ty σ H2 fun y H3=>∃a H4,x=.ref a∧DPut H3 a y v H4∧D.nx σ H4
section
variable {X:Cx} {o i e value:Expr} {pos pos' tpos:Pos} {td ty tv:TE}
theorem pe_dget (hu:X.A.units+1 < cLine) (ho:PE X o td) (hi:PE X i ty) (hs:NoSl i):PE X (.Subscript o i pos) (tDGet td ty):=by
 intro pins s σ H Q I h
 refine subD_of PySem.F.slot_dict_getitem.lookup hs (thn (ho pins s σ H _ I h) fun u s1 ⟨x,H1,I1,rx,q1⟩=>thn (hi pins s1 σ H1 _ I1 q1) fun iv s2 ⟨y,H2,I2,ry,a,v,ex,g,q2⟩=>?_)
 subst ex
 obtain rfl:u=Value.ref a:=rx
 exact ⟨dict_typeIs I2 g,d_getItem hu I2 g ry fun w' s3 I3 rw'=>⟨v,H2,I3,rw',q2⟩⟩
theorem pc_dnotin (hu:X.A.units+1 < cLine) (hi:PE X i ty) (ho:PE X o td):PC X .NotIn i o (tDNotIn ty td):=by
 intro pins s σ H Q I h
 refine thn (hi pins s σ H _ I h) fun iv s1 ⟨y,H1,I1,ry,q1⟩=>thn (ho pins s1 σ H1 _ I1 q1) fun u s2 ⟨x,H2,I2,rx,a,ov,ex,g,q2⟩=>?_
 subst ex
 obtain rfl:u=Value.ref a:=rx
 exact d_notIn hu I2 g ry fun s3 I3=>⟨.bl (!ov.isSome),H2,I3,rfl,q2⟩
theorem ps_dput (hu:X.A.units+1 < cLine) (ho:PE X o td) (hi:PE X i ty) (hv:PE X value tv) (hs:swapsWith value (some (.Subscript o i pos')) pos.line X.env=pure false):
  PS X (.Assign [.Subscript o i pos'] value pos) (sDPut td ty tv):=by
 intro pins s σ H D I h
 refine wpAny_Assign_Subscript (thn (hv pins s σ H _ I h) fun r s1 ⟨v,H1,I1,rv,q1⟩=>thn (ho pins s1 σ H1 _ I1 q1) fun u s2 ⟨x,H2,I2,rx,q2⟩=>thn (hi pins s2 σ H2 _ I2 q2) fun iv s3 ⟨y,H3,I3,ry,a,H4,ex,g,q3⟩=>?_) hs
 subst ex
 obtain rfl:u=Value.ref a:=rx
 exact d_setItem hu I3 g ry rv fun s4 I4=>⟨σ,H4,I4,q3⟩
end
theorem dk_empty {P:Program} {w:World} {H:Hp} (h:Heap) (hb:sysModules < h.objs.size):ObjOk P w H (h.push {cls:=.type "dict",data:=.dict #[]}) h.objs.size (.dK []):=
 ⟨Nat.zero_le _,beq_eq_false_iff_ne.mpr (Ne.symm (Nat.ne_of_lt hb)),[],.nil,Heap.DictOf.new h⟩
theorem dt_empty {P:Program} {w:World} {H:Hp} (h:Heap) (hb:sysModules < h.objs.size):ObjOk P w H (h.push {cls:=.type "dict",data:=.dict #[]}) h.objs.size (.dT []):=
 ⟨Nat.zero_le _,beq_eq_false_iff_ne.mpr (Ne.symm (Nat.ne_of_lt hb)),[],.nil,_,#[],0,Heap.get?_push_size _ rfl,⟨rfl,rfl,rfl⟩,rfl,rfl,List.nodup_nil⟩
noncomputable def tDNewK:TE:=fun _ H Q=>∀p,H p=none→Q (.ref p) (upd H p (.dK []))
noncomputable def tDNewT:TE:=fun _ H Q=>∀p,H p=none→Q (.ref p) (upd H p (.dT []))
section
variable {X:Cx} {pos:Pos}
theorem pe_dnewK:PE X (.Dict [] [] pos) tDNewK:=fun pins s σ H Q I h=>
 wpAny_Dict_empty ⟨.ref s.heap.objs.size,_,I.laid (a:=s.heap.objs.size) (o:=.dK []) (t':=s.toks) (fun _ _ q=>Heap.get?_push_of_some _ q) (Nat.le_refl _) (dk_empty s.heap I.big),rfl,h _ (I.hok.fresh (Nat.le_refl _))⟩
theorem pe_dnewT:PE X (.Dict [] [] pos) tDNewT:=fun pins s σ H Q I h=>
 wpAny_Dict_empty ⟨.ref s.heap.objs.size,_,I.laid (a:=s.heap.objs.size) (o:=.dT []) (t':=s.toks) (fun _ _ q=>Heap.get?_push_of_some _ q) (Nat.le_refl _) (dt_empty s.heap I.big),rfl,h _ (I.hok.fresh (Nat.le_refl _))⟩
end
noncomputable def tPairs:List (TE × TE)→St→Hp→(List (V × V)→Hp→Prop)→Prop
 | [],_,H,Q=>Q [] H
 | (tk,tv)::r,σ,H,Q=>tk σ H fun x H1=>tv σ H1 fun y H2=>tPairs r σ H2 fun ps H3=>Q ((x,y)::ps) H3
noncomputable abbrev VV:List (V × V)→List (Value × Value)→Prop:=Paired fun p q=>RelV p.1 q.1∧RelV p.2 q.2
noncomputable def PPs (X:Cx) (pos:Pos) (keys:List (Option Expr)) (values:List Expr) (trs:List (TE × TE)):Prop:=
 ∀(pins:List (Addr × Obj)) (s:Shared) (σ:St) (H:Hp) (Q:List (V × V)→Hp→Prop),Inv X pins σ H s→tPairs trs σ H Q→
  wpAny (model X.prog X.w) X.A (evalPairs (pairTrees keys values X.env pos)) (fun vs s'=>∃ps H',Inv X pins σ H' s'∧VV ps vs∧Q ps H') X.xe s
theorem pps_nil {X:Cx} {pos:Pos}:PPs X pos [] [] []:=fun pins s σ H Q I h=>pairTrees_nil_walk ⟨[],H,I,.nil,h⟩
theorem pps_cons {X:Cx} {pos:Pos} {k v:Expr} {ks:List (Option Expr)} {vs:List Expr} {tk tv:TE} {trs:List (TE × TE)} (hk:PE X k tk) (hv:PE X v tv) (hr:PPs X pos ks vs trs):
  PPs X pos (some k::ks) (v::vs) ((tk,tv)::trs):=fun pins s σ H Q I h=>
 pairTrees_cons_walk (thn (hk pins s σ H _ I h) fun u s1 ⟨x,H1,I1,rx,q1⟩=>thn (hv pins s1 σ H1 _ I1 q1) fun w2 s2 ⟨y,H2,I2,ry,q2⟩=>
  thn (hr pins s2 σ H2 _ I2 q2) fun ws s3 ⟨ps,H3,I3,rel,q3⟩=>⟨(x,y)::ps,H3,I3,.cons ⟨rx,ry⟩ rel,q3⟩)
noncomputable def mergeK (kvs more:List (Key × V)):List (Key × V):=more.foldl (fun acc kv=>putK acc kv.1 kv.2) kvs
theorem KV.merge:∀{more:List (Key × V)} {rs:List (Key × Value)} {kvs:List (Key × V)} {vs:List (Key × Value)},KV more rs→KV kvs vs→KV (mergeK kvs more) (merged vs rs):=by
 intro more rs kvs vs r
 unfold KV at r
 induction r generalizing kvs vs with
 | nil=>intro q;exact q
 | @cons p q ps qs h t ih=>
  intro r0
  have e:KV (putK kvs p.1 p.2) (stored vs q.1 q.2):=by
   have:=r0.put p.1 h.2
   rw [←h.1];exact this
  exact ih e
theorem length_mergeK:∀(more kvs:List (Key × V)),(mergeK kvs more).length≤kvs.length+more.length
 | [],kvs=>by show kvs.length≤kvs.length+0;omega
 | p::r,kvs=>by
  have h1:=length_mergeK r (putK kvs p.1 p.2)
  have h2:=length_putK kvs p.1 p.2
  show (mergeK (putK kvs p.1 p.2) r).length≤_
  rw [List.length_cons];omega
theorem carries_of {P:Program} {w:World}:∀{kvs:List (Key × V)} {ws:List (Value × Value)},VV (kvs.map fun kv=>(kV kv.1,kv.2)) ws→∃rs,Carries (mixKind P w) ws rs∧KV kvs rs
 | [],_,r=>by rw [List.map_nil] at r;cases r;exact ⟨[],True.intro,.nil⟩
 | p::kvs,_,r=>by
  rw [List.map_cons] at r
  cases r with
  | @cons a b as bs h t=>
   obtain ⟨rs,c,q⟩:=carries_of (P:=P) (w:=w) t
   obtain ⟨b1,b2⟩:=b
   exact ⟨(p.1,b2)::rs,⟨kV_is h.1,rfl,c⟩,.cons ⟨rfl,h.2⟩ q⟩
noncomputable def tDisp (trs:List (TE × TE)):TE:=fun σ H Q=>∀p,H p=none→tPairs trs σ (upd H p (.dK [])) fun ps H2=>H2 p=some (.dK [])∧∃kvs:List (Key × V),ps=kvs.map (fun kv=>(kV kv.1,kv.2))∧kvs.length≤15∧Q (.ref p) (upd H2 p (.dK (mergeK [] kvs)))
theorem pe_disp {X:Cx} {pos:Pos} {keys:List (Option Expr)} {values:List Expr} {trs:List (TE × TE)} (h:PPs X pos keys values trs) (hall:keys.all (·.isSome)=true) (hl:keys.length=values.length) (h0:keys≠[])
  (h15:keys.length≤15):PE X (.Dict keys values pos) (tDisp trs):=by
 intro pins s σ H Q I q
 have hn:=I.hok.fresh (Nat.le_refl s.heap.objs.size)
 have I1:=I.laid (a:=s.heap.objs.size) (o:=.dK []) (h':=s.heap.push {cls:=.type "dict",data:=.dict #[]}) (t':=s.toks) (fun _ _ q=>Heap.get?_push_of_some _ q) (Nat.le_refl _) (dk_empty s.heap I.big)
 refine wpAny_Dict_walk (knd:=mixKind X.prog X.w) hall hl h0 h15 (thn (h pins _ σ _ _ I1 (q _ hn)) fun ws s2 ⟨ps,H2,I2,rel,e,kvs,ep,lk,q2⟩=>?_)
 subst ep
 obtain ⟨rs,c,rk⟩:=carries_of (P:=X.prog) (w:=X.w) rel
 obtain ⟨z,hd,vs0,r0,dd⟩:=dk_of I2.hok e
 cases r0
 refine ⟨rs,c,dd,fun h' dd' hs=>⟨.ref s.heap.objs.size,_,?_,rfl,q2⟩⟩
 have hz:(mergeK [] kvs).length≤sizeLine:=by
  have h1:=length_mergeK kvs []
  rw [List.length_nil] at h1
  rw [sizeLine_eq];omega
 have he:∃q,h'.get? s.heap.objs.size=some q:=let ⟨q,_,_,hq,_⟩:=dd';⟨q,hq⟩
 exact d_write I2 (by rw [e];exact True.intro) hs he (dk_new hz hd (rk.merge .nil) dd')
structure M1 (X:Cx) (o:Expr) (m:Str) (apos:Pos) (e:Expr) (cpos:Pos):Prop where
 base:attributeBase o m X.env (eval o X.env)=eval o X.env
 few:((backTo cpos (starEach [e] X.env)).all (fun x=>!x.1) && (backToKw cpos (keywordEach [] X.env)).all (fun x=>x.1.isSome)
  && decide (([e]:List Expr).length+([]:List Keyword).length+(if ([]:List Keyword).isEmpty then 0 else 1) < 30))=true
 line:(apos.endLine==cpos.line)=true
 trees:backTo cpos (starEach [e] X.env)=[(false,eval e X.env)]
structure M2 (X:Cx) (o:Expr) (m:Str) (apos:Pos) (e f:Expr) (cpos:Pos):Prop where
 base:attributeBase o m X.env (eval o X.env)=eval o X.env
 few:((backTo cpos (starEach [e,f] X.env)).all (fun x=>!x.1) && (backToKw cpos (keywordEach [] X.env)).all (fun x=>x.1.isSome)
  && decide (([e,f]:List Expr).length+([]:List Keyword).length+(if ([]:List Keyword).isEmpty then 0 else 1) < 30))=true
 line:(apos.endLine==cpos.line)=true
 trees:backTo cpos (starEach [e,f] X.env)=[(false,eval e X.env),(false,eval f X.env)]
noncomputable def IsD (H:Hp) (a:Addr):Prop:=(∃kvs,Rd H a (.dK kvs))∨∃kvs,Rd H a (.dT kvs)
theorem isD_at {X:Cx} {pins:List (Addr × Obj)} {σ:St} {H:Hp} {s:Shared} {a:Addr} (I:Inv X pins σ H s) (d:IsD H a):
  s.TypeIs (.ref a) "dict"∧(∀b,Value.ref a=.ref b→∃ob,s.heap.get? b=some ob∧ob.dict=none)∧(a==sysModules)=false:=by
 rcases d with ⟨kvs,e⟩ | ⟨kvs,e⟩
 ·obtain ⟨_,hd,vs,_,dd⟩:=dk_rd I.hok e
  refine ⟨dd.typeIs,fun b q=>?_,hd⟩
  cases q
  obtain ⟨ob,_,_,h1,h2,_⟩:=dd
  exact ⟨ob,h1,h2.2.1⟩
 ·obtain ⟨_,hd,xs,_,dd⟩:=dt_rd I.hok e
  refine ⟨dd.typeIs,fun b q=>?_,hd⟩
  cases q
  obtain ⟨ob,_,_,h1,h2,_⟩:=dd
  exact ⟨ob,h1,h2.2.1⟩
section
variable {X:Cx} {pins:List (Addr × Obj)} {σ:St} {H:Hp} {s:Shared} {a:Addr} {y d:V} {u r:Value} {o:Option V} {A:Around} {E:Value→Shared→Prop}
theorem d_get1 {Q:Value→Shared→Prop} (hu:A.units+1 < cLine) (I:Inv X pins σ H s) (g:DGet H a y o) (ry:RelV y u) (h:∀w' s',Inv X pins σ H s'→RelV (o.getD .non) w'→Q w' s'):
  wpAny (model X.prog X.w) A (call (.builtin "dict.get") [.ref a,u]) Q E s:=by
 rcases g with ⟨kvs,k,e,ey,l⟩ | ⟨kvs,k,b,e,ey,eb,l⟩
 ·subst ey
  obtain ⟨z,hd,vs,rel,dd⟩:=dk_rd I.hok e
  refine call_meetsIn PySem.F.slot_dict_get dd.typeIs PySem.F.entry_dict_get (PySem.F.args_dict_get_2 _ _) (meets_dict_get (mixKind X.prog X.w) a (kV_is ry) hd) ⟨_,dd.mapOf,h _ _ (I.tok _) ?_⟩
  rw [l]
  exact (rel.val k).getD rfl
 ·subst ey
  cases (show u=Value.ref b from ry)
  obtain ⟨z,hd,xs,rel,dd⟩:=dt_rd I.hok e
  refine call_meetsIn PySem.F.slot_dict_get dd.typeIs PySem.F.entry_dict_get (PySem.F.args_dict_get_2 _ _) (meetsH_dict_get (tupleKind (mixKind X.prog X.w)) a b hd) ⟨tupleKind_room_in1 hu,k,xs,key_of I.hok eb,dd,h _ _ (I.tok _) ?_⟩
  rw [l]
  exact (rel.val k).getD rfl
end
noncomputable def tDGet1 (td ty:TE):TE:=fun σ H Q=>td σ H fun x H1=>∃a,x=.ref a∧IsD H1 a∧ty σ H1 fun y H2=>∃o,DGet H2 a y o∧Q (o.getD .non) H2
section
variable {X:Cx} {o e f:Expr} {apos cpos:Pos} {td ty tx:TE}
theorem pe_dget1 (hu:X.A.units+1 < cLine) (ho:PE X o td) (he:PE X e ty) (m:M1 X o "get" apos e cpos):PE X (.Call (.Attribute o "get" apos) [e] [] cpos) (tDGet1 td ty):=by
 intro pins s σ H Q I h
 refine wpAny_Call_method m.base m.few m.line PySem.F.plainAttrs_dict PySem.F.slot_dict_get PySem.F.type_dict_get (thn (ho pins s σ H _ I h) fun u s1 ⟨x,H1,I1,rx,a,ex,d,q1⟩=>?_)
 subst ex
 obtain rfl:u=Value.ref a:=rx
 obtain ⟨t1,t2,_⟩:=isD_at I1 d
 refine ⟨t1,t2,?_⟩
 rw [m.trees]
 refine Calls.callWith_builtin rfl (Calls.evalArgs_plain (Calls.spliced_cons (thn (he pins s1 σ H1 _ I1 q1) fun iv s2 ⟨y,H2,I2,ry,ov,g,q2⟩=>Calls.spliced_nil ?_)))
 exact d_get1 hu I2 g ry fun w' s3 I3 rw'=>⟨_,H2,I3,rw',q2⟩
end
open PySem PySem.Spec PyProof.Rows
section
variable {κ:Type} [DecidableEq κ]
theorem valV_not {kvs:List (κ × V)} {k:κ} (h:valV kvs k=none):¬k∈kvs.map (·.1):=by
 intro m
 obtain ⟨p,hp,e⟩:=List.mem_map.mp m
 have q:(kvs.any fun kv=>decide (kv.1=k))=true:=List.any_eq_true.mpr ⟨p,hp,decide_eq_true e⟩
 rw [valV_any,h] at q
 exact absurd q (by simp)
theorem valV_in {kvs:List (κ × V)} {k:κ} {v:V} (h:valV kvs k=some v):k∈kvs.map (·.1):=by
 have q:(kvs.any fun kv=>decide (kv.1=k))=true:=by
  rw [valV_any,h]
  all_goals rfl
 obtain ⟨p,hp,e⟩:=List.any_eq_true.mp q
 exact List.mem_map.mpr ⟨p,hp,of_decide_eq_true e⟩
theorem nd_snoc:∀{l:List κ} {k:κ},l.Nodup→¬k∈l→(l++[k]).Nodup
 | [],k,_,_=>by simp
 | a::r,k,h,hk=>by
  obtain ⟨h1,h2⟩:=List.nodup_cons.mp h
  show (a::(r++[k])).Nodup
  refine List.nodup_cons.mpr ⟨fun m=>?_,nd_snoc h2 fun m=>hk (List.mem_cons.mpr (Or.inr m))⟩
  rcases List.mem_append.mp m with q | q
  ·exact h1 q
  ·exact hk (List.mem_cons.mpr (Or.inl (List.mem_singleton.mp q).symm))
theorem nd_putK {kvs:List (κ × V)} {k:κ} (v:V) (hn:(kvs.map (·.1)).Nodup) (h:valV kvs k=none):((putK kvs k v).map (·.1)).Nodup:=by
 rw [putK_new v h,List.map_append]
 exact nd_snoc hn (valV_not h)
end
end L2
namespace L3
section
open PySem PySem.Spec PyProof.Rows
open PySem.Builtin PySem.Builtin.Getset_descriptor
structure ExcC (K:PySem.W.Frag) (C:Addr):Prop where
 ga:PySem.W.findIn K (.ref C) "__getattribute__"=some (some (.builtin "BaseException.__getattribute__"))
 no:PySem.W.findIn K (.ref C) "__getattr__"=some none
 ha:PySem.W.findIn K (.ref C) "__class__"=some (some (.builtin "object.__class__"))
 hn:PySem.W.specialIn K (.builtin "object.__class__") "__get__"=some (some (.builtin "getset_descriptor.__get__"))
 htk:PySem.W.takesIn K (.builtin "object.__class__")=some true
 hm:PySem.W.mroIn K C (.type "object")=some true
 hb:PySem.W.mroIn K C (.type "BaseException")=some true
noncomputable def TyAt (h:Heap) (x C:Addr):Prop:=∃o,h.get? x=some o∧o.cls=.ref C
theorem TyAt.type {M:Model} {h:Heap} {x C:Addr} (I:TyAt h x C):PySem.W.Looks M h (typeOf (.ref x)) (.ref C):=by
 obtain ⟨o,e,c⟩:=I
 rw [←c]
 exact (PySem.W.Looks.ld e).andThen .now
section
variable {prog:Program} {w:World} {A:Around} {E:Value→Shared→Prop} {s:Shared} {K:PySem.W.Frag} {x C:Addr} {name:Str}
theorem check_bga {M:Model} {nameV:Value} {Q:Unit→Shared→Prop} (X:K.In s.heap) (c:ExcC K C) (I:TyAt s.heap x C) (hq:Q () s):
  wpAny M A (checkBuiltinCall "BaseException.__getattribute__" ⟨[.ref x,nameV],[]⟩) Q E s:=by
 have hk:builtinKind "BaseException.__getattribute__"=some .slot:=by decide+kernel
 have hsplit:splitId "BaseException.__getattribute__"=some ("BaseException","__getattribute__"):=by decide+kernel
 have ha:=F.args_bexc_ga (.ref x) nameV
 have LI:PySem.W.Looks M s.heap (isInstance (.ref x) (.type "BaseException")) true:=I.type.andThen (PySem.W.looks_mroIn X c.hb)
 obtain ⟨h,g,d,t,os⟩:=s
 simp only [checkBuiltinCall,hk,hsplit]
 refine wpAny_bind (LI.at ?_)
 repeat (first | assumption | wp_step)
theorem exc_by {fill expr:Bool} {tk:Tok} {Q:Value→Shared→Prop} (X:K.In s.heap) (c:ExcC K C) (I:TyAt s.heap x C)
  (h:∀A':Around,codeAny (model prog w) A' (.call (.builtin "BaseException.__getattribute__") ⟨[.ref x,.str name tk],[]⟩) (fun r s'=>match r with | .ok (.ret v)=>wpAny (model prog w) A (handedOut v) Q E s' | _=>False) s):
  wpAny (model prog w) A (getAttrBy (.ref x) (.str name tk) fill expr) Q E s:=by
 have L0:=I.type (M:=model prog w)
 have L1:=PySem.W.looks_findIn (M:=model prog w) X c.ga
 have L2:=PySem.W.looks_findIn (M:=model prog w) X c.no
 have f3:=F.excAttr_ValueError.ga.bind (.ref x)
 have hx0:(expr && onTheHeap (Value.builtin "BaseException.__getattribute__"))=false:=by cases expr <;> rfl
 have hx2:(Value.builtin "BaseException.__getattribute__"==Value.builtin "object.__getattribute__")=false:=by decide+kernel
 have hx1:(onTheHeap (Value.ref C) && Value.builtin "BaseException.__getattribute__"==Value.builtin "object.__getattribute__")=false:=by rw [hx2];rfl
 obtain ⟨hh,g,d,t,os⟩:=s
 unfold getAttrBy
 refine wpAny_holding (wpAny_bind (L0.at (wpAny_bind (L1.at ?_))))
 dsimp only
 rw [if_neg (by rw [hx1];exact Bool.false_ne_true)]
 unfold getAttrByItsOwn hookBefore
 rw [if_pos (show onTheHeap (Value.ref C)=true from rfl)]
 refine wpAny_bind (L2.at ?_)
 refine wpAny_bind (wpAny_attempt (wpAny_holding ?_))
 unfold callGetattribute
 rw [if_neg (by rw [hx0];exact Bool.false_ne_true)]
 unfold boundAndCalled
 rw [f3]
 refine wpAny_bind (wpAny_pure ?_)
 refine wpAny_call (codeAny_mono (h _) fun r s' hr=>?_)
 rcases r with e | (_ | _ | _ | v) <;> first | exact hr | exact hr.elim
theorem class_of {R:Result→Shared→Prop} {tp:Value} (X:K.In s.heap) (I:TyAt s.heap x C) (hm:PySem.W.mroIn K C (.type "object")=some true) (h:R (.ok (.ret (.ref C))) s):
  codeAny (model prog w) A (.call (.builtin "getset_descriptor.__get__") ⟨[.builtin "object.__class__",.ref x,tp],[]⟩) R s:=by
 have L0:=I.type (M:=model prog w)
 have LM:=PySem.W.looks_mroIn (M:=model prog w) X hm
 obtain ⟨h0,g,d,t,os⟩:=s
 refine codeAny_call_builtin PySem.W.KF.slot_gs.plain PySem.W.KF.entry_gs ?_
 refine PySem.W.KF.slot_gs.check _ _ _ _ _ _ _ _ PySem.W.KF.type_class (PySem.W.KF.args_gs _ _ _) ?_
 unfold Builtin.«getset_descriptor.__get__» descrGet
 rw [PySem.W.dga_obj]
 refine wpAny_bind (wpAny_pure ?_)
 unfold descrGetter descrCheckInstance descrNameAndClass isInstance
 simp only [PySem.W.KF.owner_class]
 repeat lk
 refine ⟨Code.quiet_builtin _ (by decide+kernel),codeAny_builtin PySem.W.KF.entry_class ?_⟩
 unfold Builtin.«object.__class__» shownTypeOf
 repeat lk
 exact h
theorem find_data {M:Model} {h:Heap} {a g:Value} (X:K.In h) (ha:PySem.W.findIn K (.ref C) name=some (some a)) (hg:PySem.W.specialIn K a "__get__"=some (some g)) (ht:PySem.W.takesIn K a=some true):
  PySem.W.Looks M h (Builtin.ObjectAttr.find (.ref x) (.ref C) name) (.bind g a):=by
 have L1:=PySem.W.looks_findIn (M:=M) X ha
 have L2:PySem.W.Looks M h (Builtin.ObjectAttr.getOf (some a)) (some g):=PySem.W.looks_specialIn X hg
 have L3:=PySem.W.looks_takesIn (M:=M) X ht
 unfold Builtin.ObjectAttr.find
 refine L1.andThen (L2.andThen ?_)
 have LD:PySem.W.Looks M h (Builtin.ObjectAttr.dataDescriptor? (some a) (some g)) (some (g,a)):=by
  unfold Builtin.ObjectAttr.dataDescriptor?
  refine L3.andThen ?_
  exact .now
 exact LD.andThen (PySem.W.Looks.tag .now)
theorem ExcC.some (c:ExcC K C):(PySem.W.clsIn K C).isSome=true:=by
 have h:=c.hm
 unfold PySem.W.mroIn at h
 obtain ⟨cd,a,_⟩:=Option.bind_eq_some_iff.mp h
 rw [a]
 rfl
theorem exc_class {fill expr:Bool} {tk:Tok} {Q:Value→Shared→Prop} (X:K.In s.heap) (c:ExcC K C) (I:TyAt s.heap x C) (h:Q (.ref C) s):
  wpAny (model prog w) A (getAttrBy (.ref x) (.str "__class__" tk) fill expr) Q E s:=by
 refine exc_by X c I fun A'=>codeAny_call_builtin F.excAttr_ValueError.ga.plain F.entry_bexc_ga (check_bga X c I ?_)
 have L0:=I.type (M:=model prog w)
 have L1:=find_data (M:=model prog w) (x:=x) X c.ha c.hn c.htk
 obtain ⟨hh,g,d,t,os⟩:=s
 unfold Builtin.«object.__getattribute__»
 have sa:slotArgs "__getattribute__" 1 ⟨[.ref x,.str (Str.ofString "__class__") tk],[]⟩=pure (.ref x,[.str (Str.ofString "__class__") tk]):=rfl
 rw [sa]
 refine wpAny_bind (wpAny_pure ?_)
 dsimp only
 have an:Builtin.ObjectAttr.attrName (.str (Str.ofString "__class__") tk)=pure (Str.ofString "__class__"):=rfl
 rw [an]
 refine wpAny_bind (wpAny_pure (wpAny_bind (L0.at (wpAny_bind (L1.at ?_)))))
 dsimp only
 unfold Builtin.ObjectAttr.bindTo
 show wpAny _ _ (holding [Value.builtin "object.__class__"] (call (Value.builtin "getset_descriptor.__get__") [Value.builtin "object.__class__",Value.ref x,Value.ref C]) >>=ret) _ _ _
 refine wpAny_bind (wpAny_holding (wpAny_call (class_of X I c.hm ?_)))
 refine wpAny_pure ?_
 show wpAny _ _ (handedOut (.ref C)) _ _ _
 exact wpAny_pure h
theorem exc_cls {Q:Option Value→Shared→Prop} (X:K.In s.heap) (c:ExcC K C) (I:TyAt s.heap x C) (h:Q (some (.ref C)) {s with toks:=s.toks+1}):wpAny (model prog w) A (getAttr? (.ref x) "__class__") Q E s:=by
 unfold getAttr? getAttrBy?
 refine wpAny_bind (wpAny_mkText (wpAny_bind (wpAny_attempt ?_)))
 refine exc_class (s:={s with toks:=s.toks+1}) X c I ?_
 exact wpAny_pure h
end
end
open PySem PySem.Spec PyProof.Rows L2
theorem cls_type {K:PySem.W.Frag} {C:Addr} {M:Model} {h:Heap} (c:ExcC K C) (X:K.In h):PySem.W.Looks M h (isType (.ref C)) true:=by
 obtain ⟨cd,hc⟩:=Option.isSome_iff_exists.mp c.some
 unfold PySem.W.clsIn at hc
 split at hc
 ·rename_i d1 d2 d3 d4 ho
  intro A Q E s k q
  unfold isType loadHead
  exact wpAny_bind (wpAny_loadPart (k _ _ (X _ _ ho)) (wpAny_pure q))
 ·cases hc
theorem kitx_exc {K:PySem.W.Frag} {ea C:Addr} (c:ExcC K C):PySem.W.KitX K (.ref ea) (.ref C) (fun h=>TyAt h ea C) where
 ty:=fun _ _ _ I=>I.type
 it:=fun _ _ X _=>cls_type c X
 ne:=fun h tp dd its n sl X htp=>by
  refine Bool.eq_false_iff.mpr fun q=>?_
  have e:C=tp:=Value.ref.inj (beq_iff_eq.mp q)
  subst e
  obtain ⟨cd,hc⟩:=Option.isSome_iff_exists.mp c.some
  unfold PySem.W.clsIn at hc
  split at hc
  ·rename_i d1 d2 d3 d4 ho
   have z:=(X _ _ ho).symm.trans htp
   cases z
  ·cases hc
 ca:=fun X I k=>exc_cls X c I k
section
variable {X:Cx}
theorem in65 {k:Nat} {A:Around} (r:Room k A):A.units+65 < cLine:=by have:=r.un;omega
noncomputable def rInD (K:PySem.W.Frag) (neg:Bool):R2:=fun x y H Q=>∃d ds,Dt K H x d∧Dt K H y (.list ds)∧SeqAt.shaped d=true∧PyData.canLayAll0 ds=true∧Q (.bl (if neg then !(ds.any fun z=>PyData.eqv z d) else ds.any fun z=>PyData.eqv z d)) H
theorem room_inD {A:Around} {ds:List PyData} {d:PyData} (sd:SeqAt.shaped d=true) (hu:A.units+65 < cLine):A.units+1+min (PyData.depthAll ds) d.depth < cLine:=by
 have h1:=SeqAt.depth_of_shaped sd
 have h2:min (PyData.depthAll ds) d.depth≤d.depth:=Nat.min_le_right _ _
 omega
theorem op_inD (hu:X.A.units+65 < cLine):OpR X (compareOp .In) (rInD X.K false):=by
 intro pins s σ H x y v u Q I rx ry h
 obtain ⟨d,ds,hd,he,sd,se,q⟩:=h
 obtain ⟨as,ra⟩:=dt_reads I hd rx
 obtain ⟨bs,rb⟩:=dt_reads I he ry
 exact SeqAt.in_list_reads rb ra se (SeqAt.canLay_of_shaped sd) (room_inD sd hu) ⟨.bl _,H,I,rfl,q⟩
end
end L3
namespace K1
open PySem L2 L3
theorem bt_len:bootBuiltins "len"=some (.builtin "len"):=by decide+kernel
theorem bt_isinstance:bootBuiltins "isinstance"=some (.builtin "isinstance"):=by decide+kernel
theorem bt_all:bootBuiltins "all"=some (.builtin "all"):=by decide+kernel
theorem bt_int:bootBuiltins "int"=some (.type "int"):=by decide+kernel
theorem bt_bool:bootBuiltins "bool"=some (.type "bool"):=by decide+kernel
theorem bt_str:bootBuiltins "str"=some (.type "str"):=by decide+kernel
theorem bt_list:bootBuiltins "list"=some (.type "list"):=by decide+kernel
theorem bt_tuple:bootBuiltins "tuple"=some (.type "tuple"):=by decide+kernel
theorem bt_set:bootBuiltins "set"=some (.type "set"):=by decide+kernel
theorem bt_ValueError:bootBuiltins "ValueError"=some (.type "ValueError"):=by decide+kernel
structure Blt (mg:Str→Option Value):Prop where
 len:mg "len"=none
 range:mg "range"=none
 isinstance:mg "isinstance"=none
 all_:mg "all"=none
 int:mg "int"=none
 bool:mg "bool"=none
 str:mg "str"=none
 list:mg "list"=none
 tuple:mg "tuple"=none
 set_:mg "set"=none
 ValueError:mg "ValueError"=none
 enumerate:mg "enumerate"=none
 max:mg "max"=none
 min:mg "min"=none
 sum:mg "sum"=none
 any_:mg "any"=none
 dict:mg "dict"=none
 sorted:mg "sorted"=none
 zip:mg "zip"=none
structure Dn (K:PySem.W.Frag) (mg:Str→Option Value) (x:Str) (st:Stmt) (ps:List Str) (f:Addr) (fd:FuncData):Prop where
 fn:Fun K x x st f fd
 at_:mg x=some (.ref f)
 bd:Binds K fd ps []
structure Mn (K:PySem.W.Frag) (C:Addr) (m qual:Str) (st:Stmt) (ps:List Str) (f:Addr) (fd:FuncData):Prop where
 fn:Fun K m qual st f fd
 me:Meth K C m f
 bd:Binds K fd ps []
structure Inn (K:PySem.W.Frag) (C:Addr) (qual:Str) (st:Stmt) (ps:List Str) (f:Addr) (fd:FuncData):Prop where
 fn:Fun K "__init__" qual st f fd
 made:Mk K C f
 bd:Binds K fd ps []
noncomputable def Cst (mg:Str→Option Value) (x:Str) (i:Int):Prop:=∃t,mg x=some (.int i t)
theorem pe_const {X:Cx} {x:Str} {i:Int} {pos:Pos} (hg:Gl X x) (h:Cst X.mg x i) (hd:(x==("__debug__":Str))=false:=by decide):PE X (.Name x pos) (tC (.int i)):=by
 obtain ⟨t,e⟩:=h
 exact pe_glob hg e ⟨t,rfl⟩ hd
theorem pe_bty {X:Cx} {x:Str} {T:String} {pos:Pos} (hg:Gl X x) (hm:X.mg x=none) (hv:bootBuiltins x=some (.type T)) (hn:x≠"__name__":=by decide) (hd:(x==("__debug__":Str))=false:=by decide):PE X (.Name x pos) (tC (.ty T)):=
 pe_bltn (v:=.ty T) hg hm hv rfl hn hd
theorem pe_cls {X:Cx} {x:Str} {C:Addr} {pos:Pos} (hg:Gl X x) (hm:X.mg x=some (.ref C)) (hd:(x==("__debug__":Str))=false:=by decide):PE X (.Name x pos) (tC (.ref C)):=
 pe_glob (v:=.ref C) hg hm rfl hd
theorem tlc_map {wi:TI} {cs:List (Option Nat)} {te:TE} {σ rest:L2.St} {H H1:Hp} {Q:VK} {J:It} {xs:List L2.V} (hw:∀R:It→Hp→Prop,R J H1→wi σ H R) (hcs:caps cs σ=none::rest) (wk:Wk J H1 xs) (hl:xs.length < sizeLine) (f:L2.V→L2.V)
  (elt:∀(i:Nat) (x:L2.V) (H2:Hp) (R:VK),xs[i]?=some x→Same H1 H2→(∀H5,Same H2 H5→R (f x) H5)→te (some x::rest) H2 R)
  (fin:∀(D:Addr) (H':Hp),H1 D=none→H' D=some (.lst (xs.map f))→Same H1 H'→Q (.ref D) H'):tLC wi cs (gName 0) tAll te σ H Q:=hw _ (lc_map hcs wk hl f elt fin)
theorem kit_eq (K:PySem.W.Frag) (t:String):PySem.W.kitOne K (.type t) (.type t)=some true:=by
 unfold PySem.W.kitOne
 exact if_pos (by simp)
theorem passE {X:Cx}:Passes (CXe X.prog X.w) X E0:=by
 rintro pins σ H s e s' I ⟨_,_,_,_,_,_,_,z⟩
 exact z.elim
theorem sub_of {cl big:List (Str × Addr)} (h:∀p∈cl,big.lookup p.1=some p.2) (x:Str) (c:Addr) (e:cl.lookup x=some c):big.lookup x=some c:=by
 induction cl with
 | nil=>cases e
 | cons p r ih=>
  obtain ⟨y,d⟩:=p
  rw [List.lookup_cons] at e
  by_cases hb:(x==y)=true
  ·rw [hb] at e
   cases e
   have:=h (y,c) (List.mem_cons_self ..)
   rw [show x=y from eq_of_beq hb]
   exact this
  ·rw [Bool.not_eq_true] at hb
   rw [hb] at e
   exact ih (fun p hp=>h p (List.mem_cons_of_mem _ hp)) e
end K1
namespace M1
open PySem
noncomputable def wcs:Nat→Int→List Nat
 | 0,_=>[]
 | k+1,n=>(97+(n % 26).toNat)::wcs k (n / 26)
noncomputable def wnum (c:Int):Int:=c * 1099087573 % 10000000000037
noncomputable def wsize (c:Int):Nat:=(1+wnum c % 7).toNat
noncomputable def wordL (c:Int):List Nat:=wcs (wsize c) (wnum c / 7)
noncomputable def Nm (l:List Nat):Prop:=1≤l.length∧l.length≤8∧∀x∈l,97≤x∧x≤122
noncomputable def letters:List Nat:=[107,99,120,113,97,109,122,102,116,98,106,101]
noncomputable def hat (c:Int):Nat:=(c % ((wsize c:Int)+1)).toNat
noncomputable def house (c:Int) (l:Nat):List Nat:=(wordL c).take (hat c)++l::(wordL c).drop (hat c)
structure Rd where
 a:Nat
 b:Nat
 t:Int
 m:Int
noncomputable def rnum (c:Int):Int:=c * 48271 % 2147483647
noncomputable def rbeg (n:Nat) (c:Int):Int:=rnum c % n
noncomputable def rend (n:Nat) (c:Int):Int:=(rbeg n c+1+rnum c / 12 % ((n:Int) - 1)) % n
noncomputable def rroom (c:Int):Int:=if rnum c / 432 % 5=1 then 1+c % 10 ^ 9 else 1+rnum c / 144 % 3
noncomputable def rturn (l:Int) (c:Int):Int:=1+rnum c / 2160 % l
noncomputable def rd (n:Nat) (c:Int):Rd:=⟨(rbeg n c).toNat,(rend n c).toNat,rturn 9 c,rroom c⟩
structure Rd.Ok (r:Rd) (n:Nat):Prop where
 a:r.a < n
 b:r.b < n
 ne:r.a≠r.b
 t:1≤r.t∧r.t≤9
 m:1≤r.m∧r.m≤1000000000
end M1
namespace K1
open PySem L2 L3 M1
section
variable {P:Program} {w:World} {K:PySem.W.Frag} {mg:Str→Option Value} {base:Heap}
noncomputable abbrev S (l:List Nat):Str:=⟨l.toArray⟩
theorem atI_int {ns:List Int} {k:Int} (h0:0≤k) (h1:k < (ns.map V.int).length):atI (ns.map V.int) k=some (V.int (ns.getD k.toNat 0)):=by
 have h2:k.toNat < ns.length:=by rw [List.length_map] at h1;omega
 have e:(ns.map V.int)[k.toNat]?=some (V.int (ns.getD k.toNat 0)):=by
  rw [List.getElem?_map,List.getElem?_eq_getElem h2]
  simp [List.getD,h2]
 have:=atI_nat e
 rwa [Int.toNat_of_nonneg h0] at this
noncomputable def spAt (K:PySem.W.Frag):Sp:=fun vs H Q _=>∃(a:Addr) (ns:List Int) (k:Int),vs=[.ref a,.int k]∧SqL K H a (ns.map V.int)∧0≤k∧Q (.int (ns.getD k.toNat 0)) H
theorem alpha_codes:(Str.ofString "abcdefghijklmnopqrstuvwxyz").cps.toList=(List.range 26).map (97+·):=by decide+kernel
theorem alpha_at {i:Int} (h0:0≤i) (h1:i < 26):atI (Str.ofString "abcdefghijklmnopqrstuvwxyz").cps.toList i=some (97+i.toNat):=by
 have e:(Str.ofString "abcdefghijklmnopqrstuvwxyz").cps.toList[i.toNat]?=some (97+i.toNat):=by
  rw [alpha_codes,List.getElem?_map,List.getElem?_range (by omega)]
  rfl
 have:=atI_nat e
 rwa [Int.toNat_of_nonneg h0] at this
theorem S_app (a b:List Nat):S a++S b=S (a++b):=by
 show Str.append _ _=_
 simp [Str.append,S]
theorem S_len (a:List Nat):(S a).length=a.length:=by simp [S,Str.length]
noncomputable def txs (hs:List (List Nat)):List L2.V:=hs.map fun l=>V.str (S l)
theorem txs_map (hs:List (List Nat)):txs hs=(hs.map S).map V.str:=by simp [txs]
theorem signs_S (l:List Nat):signs (S l)=l.map fun c=>V.str (S [c]):=by simp [signs,S]
noncomputable def rdV (hs:List (List Nat)) (r:M1.Rd):List L2.V:=[.str (S (hs.getD r.a [])),.str (S (hs.getD r.b [])),.int r.t,.int r.m]
noncomputable def Tups (H:Hp):List Addr→List (List L2.V)→Prop:=Paired fun r d=>H r=some (.tup d)
theorem Tups.same {H H':Hp} (sm:Same H H') {rs ds} (h:Tups H rs ds):Tups H' rs ds:=Paired.mapP h fun _ _ e=>sm _ _ e
noncomputable def refs (rs:List Addr):List L2.V:=rs.map V.ref
theorem Paired.snoc {α β:Type} {F:α→β→Prop} {x:α} {y:β} (q:F x y):∀{l:List α} {m:List β},Paired F l m→Paired F (l++[x]) (m++[y])
 | _,_,.nil=>.cons q .nil
 | _,_,.cons r t=>.cons r (Paired.snoc q t)
theorem txs_at {hs:List (List Nat)} {k:Int} (h0:0≤k) (h1:k < hs.length):atI (txs hs) k=some (V.str (S (hs.getD k.toNat []))):=by
 have h2:k.toNat < hs.length:=by omega
 have e:(txs hs)[k.toNat]?=some (V.str (S (hs.getD k.toNat []))):=by
  unfold txs
  rw [List.getElem?_map,List.getElem?_eq_getElem h2]
  simp [List.getD,h2]
 have:=atI_nat e
 rwa [Int.toNat_of_nonneg h0] at this
theorem txs_len (hs:List (List Nat)):(txs hs).length=hs.length:=List.length_map ..
theorem upd_other {H H':Hp} {p:Addr} {o:HO} (hp:H p=none) (sm:Same H H'):Same H (upd H' p o):=fun b u e=>by
 rw [upd_ne (ne_of_none e hp)]
 exact sm b u e
theorem Tups.upd {H:Hp} {p:Addr} {o u:HO} {rs ds} (h:Tups H rs ds) (e:H p=some u) (hu:∀d,u≠.tup d):Tups (upd H p o) rs ds:=Paired.mapP h fun r d q=>by
 rw [upd_ne]
 ·exact q
 ·rintro rfl
  rw [e] at q
  exact hu d (Option.some.inj q)
theorem refs_snoc (rs:List Addr) (t:Addr):refs rs++[V.ref t]=refs (rs++[t]):=by simp [refs]
theorem refs_len (rs:List Addr):(refs rs).length=rs.length:=List.length_map ..
theorem Tups.len {H rs ds} (h:Tups H rs ds):rs.length=ds.length:=Paired.length h
theorem upd_free {H:Hp} {t:Addr} {o:HO} (ht:H t=none):Same H (upd H t o):=fun b u e=>by
 rw [upd_ne (ne_of_none e ht)]
 exact e
theorem iteB {b:Bool} {A B:Prop} (h:b=true) (q:A):if b=true then A else B:=by rw [if_pos h];exact q
theorem iteN {b:Bool} {A B:Prop} (h:b=false) (q:B):if b=true then A else B:=by subst h;exact q
theorem bl_of {R:VK} {b:Bool} {H:Hp} (e:b=true) (h:R (.bl true) H):R (.bl b) H:=by rw [e];exact h
theorem map_true (xs:List L2.V):xs.map (fun _=>V.bl true)=(List.replicate xs.length true).map V.bl:=by
 induction xs with
 | nil=>rfl
 | cons x r ih=>simp [List.replicate_succ,ih]
theorem all_true (n:Nat):(List.replicate n true).all id=true:=by
 rw [List.all_eq_true]
 intro x hx
 exact (List.mem_replicate.mp hx).2
structure Kit (K:PySem.W.Frag):Prop where
 ib:PySem.W.kitOne K (.type "int") (.type "bool")=some false
noncomputable def spWhole:Sp:=fun vs H Q _=>∃i:Int,vs=[.int i]∧Q (.bl true) H
noncomputable def spWithin:Sp:=fun vs H Q _=>∃i a b:Int,vs=[.int i,.int a,.int b]∧a≤i∧i≤b∧Q (.bl true) H
noncomputable def spTupOf:Sp:=fun vs H Q _=>∃(r:Addr) (xs:List L2.V) (n:Int),vs=[.ref r,.int n]∧H r=some (.tup xs)∧(xs.length:Int)=n∧Q (.bl true) H
theorem flat_strs (ys:List Str):(ys.map V.str).all flatV=true:=by
 rw [List.all_eq_true]
 intro x hx
 obtain ⟨y,_,rfl⟩:=List.mem_map.mp hx
 rfl
theorem in_strs {ys:List Str} {x:Str} (h:x∈ys):inV (.str x) (ys.map V.str)=true:=by
 unfold inV
 rw [List.any_eq_true]
 exact ⟨.str x,List.mem_map.mpr ⟨x,h,rfl⟩,by show (x==x)=true;exact beq_self_eq_true x⟩
noncomputable def spUnlike (K:PySem.W.Frag):Sp:=fun vs H Q _=>∃(a:Addr) (ys:List Str) (x y:Str),vs=[.ref a,.str x,.str y]∧SqL K H a (ys.map V.str)∧x∈ys∧y∈ys∧x≠y∧Q (.bl true) H
theorem sA:Str.ofString "a"=⟨#[97]⟩:=by decide+kernel
theorem sZ:Str.ofString "z"=⟨#[122]⟩:=by decide+kernel
noncomputable def spName:Sp:=fun vs H Q _=>∃l:List Nat,vs=[.str (S l)]∧Nm l∧∀H',Same H H'→Q (.bl true) H'
structure Csts (mg:Str→Option Value):Prop where
 MOST_HOUSES:Cst mg "MOST_HOUSES" 12
 MOST_ROADS:Cst mg "MOST_ROADS" 40
 MOST_SIGNS:Cst mg "MOST_SIGNS" 8
 MOST_TURNS:Cst mg "MOST_TURNS" 9
 MOST_ROOM:Cst mg "MOST_ROOM" 1000000000
theorem S_inj {a b:List Nat} (h:S a=S b):a=b:=by
 have:=congrArg (fun x=>x.cps.toList) h
 simpa [S] using this
theorem nodup_S {hs:List (List Nat)} (h:hs.Nodup):∀i j,i < j→j < (hs.map S).length→(hs.map S).getD i Str.empty≠(hs.map S).getD j Str.empty:=by
 intro i j hij hj e
 rw [List.length_map] at hj
 have hi:i < hs.length:=by omega
 rw [List.getD,List.getD,List.getElem?_map,List.getElem?_map,List.getElem?_eq_getElem hi,List.getElem?_eq_getElem hj] at e
 have e2:=S_inj (show S hs[i]=S hs[j] from e)
 exact List.pairwise_iff_getElem.mp h i j hi hj hij e2
structure Good (hs:List (List Nat)):Prop where
 nm:∀x∈hs,Nm x
 nd:hs.Nodup
 few:hs.length≤12
noncomputable def spAreH:Sp:=fun vs H Q _=>∃(a:Addr) (hs:List (List Nat)),vs=[.ref a]∧H a=some (.lst (txs hs))∧Good hs∧∀H',Same H H'→Q (.bl true) H'
theorem Paired.get {α β:Type} {F:α→β→Prop}:∀{l:List α} {m:List β} {i:Nat} {x:α},Paired F l m→l[i]?=some x→∃y,m[i]?=some y∧F x y
 | _,_,_,_,.nil,e=>by simp at e
 | _,_,0,_,.cons r _,e=>by simp at e;subst e;exact ⟨_,rfl,r⟩
 | _,_,i+1,x,.cons _ t,e=>by
  obtain ⟨y,h1,h2⟩:=Paired.get (i:=i) (x:=x) t (by simpa using e)
  exact ⟨y,by simpa using h1,h2⟩
structure RoadsAt (H:Hp) (hs:List (List Nat)) (rs:List Addr) (ds:List M1.Rd):Prop where
 tups:Tups H rs (ds.map (rdV hs))
 ok:∀d∈ds,d.Ok hs.length
theorem RoadsAt.same {H H':Hp} {hs rs ds} (r:RoadsAt H hs rs ds) (sm:Same H H'):RoadsAt H' hs rs ds:=⟨r.tups.same sm,r.ok⟩
theorem RoadsAt.get {H:Hp} {hs rs ds} {i:Nat} {r:Addr} (q:RoadsAt H hs rs ds) (e:rs[i]?=some r):∃d,ds[i]?=some d∧d.Ok hs.length∧H r=some (.tup (rdV hs d)):=by
 obtain ⟨y,h1,h2⟩:=Paired.get q.tups e
 rw [List.getElem?_map] at h1
 obtain ⟨d,hd,rfl⟩:=Option.map_eq_some_iff.mp h1
 exact ⟨d,hd,q.ok d (List.mem_of_getElem? hd),h2⟩
theorem RoadsAt.len {H:Hp} {hs rs ds} (q:RoadsAt H hs rs ds):rs.length=ds.length:=by
 have:=q.tups.len
 rwa [List.length_map] at this
theorem mem_at {hs:List (List Nat)} {a:Nat} (h:a < hs.length):S (hs.getD a [])∈hs.map S:=by
 refine List.mem_map.mpr ⟨hs.getD a [],?_,rfl⟩
 rw [List.getD,List.getElem?_eq_getElem h]
 exact List.getElem_mem h
theorem ne_at {hs:List (List Nat)} {a b:Nat} (nd:hs.Nodup) (ha:a < hs.length) (hb:b < hs.length) (ne:a≠b):S (hs.getD a [])≠S (hs.getD b []):=by
 intro e
 have e2:=S_inj e
 rw [List.getD,List.getD,List.getElem?_eq_getElem ha,List.getElem?_eq_getElem hb] at e2
 rcases Nat.lt_or_gt_of_ne ne with h | h
 ·exact List.pairwise_iff_getElem.mp nd a b ha hb h e2
 ·exact List.pairwise_iff_getElem.mp nd b a hb ha h e2.symm
noncomputable def spRoad (K:PySem.W.Frag):Sp:=fun vs H Q _=>∃(a r:Addr) (hs:List (List Nat)) (d:M1.Rd),vs=[.ref a,.ref r]∧SqL K H a (txs hs)∧hs.Nodup∧d.Ok hs.length∧H r=some (.tup (rdV hs d))∧Q (.bl true) H
noncomputable def spAreR (K:PySem.W.Frag):Sp:=fun vs H Q _=>∃(a b:Addr) (hs:List (List Nat)) (rs:List Addr) (ds:List M1.Rd),vs=[.ref a,.ref b]∧SqL K H a (txs hs)∧hs.Nodup∧H b=some (.lst (refs rs))∧RoadsAt H hs rs ds∧rs.length≤40∧∀H',Same H H'→Q (.bl true) H'
noncomputable def SameBut (x:Addr) (H H':Hp):Prop:=∀b o,b≠x→H b=some o→H' b=some o
noncomputable def netF (a b:Addr):List (Str × L2.V):=[("kept_houses",.ref a),("kept_roads",.ref b)]
structure NetC (K:PySem.W.Frag) (C:Addr):Prop where
 cl:Cls K C
 nh:NoAttr K C "kept_houses"
 nr:NoAttr K C "kept_roads"
noncomputable def spInit (K:PySem.W.Frag) (C:Addr):Sp:=fun vs H Q _=>∃(x dx a b:Addr) (hs:List (List Nat)) (rs:List Addr) (ds:List M1.Rd),vs=[.ref x,.ref a,.ref b]∧H x=some (.ins C dx [])∧H a=some (.lst (txs hs))∧Good hs∧
 H b=some (.lst (refs rs))∧RoadsAt H hs rs ds∧rs.length≤40∧
 ∀(H':Hp) (a' b':Addr),SameBut x H H'→H' x=some (.ins C dx (netF a' b'))→H' a'=some (.lst (txs hs))→H' b'=some (.lst (refs rs))→H a'=none→H b'=none→Q .non H'
structure NetAt (C:Addr) (H:Hp) (x a' b':Addr) (xs ys:List L2.V):Prop where
 ins:∃dx,H x=some (.ins C dx (netF a' b'))
 hou:H a'=some (.lst xs)
 roa:H b'=some (.lst ys)
theorem NetAt.same {C:Addr} {H H':Hp} {x a' b':Addr} {xs ys:List L2.V} (n:NetAt C H x a' b' xs ys) (sm:Same H H'):NetAt C H' x a' b' xs ys:=
 let ⟨dx,h⟩:=n.ins
 ⟨⟨dx,sm _ _ h⟩,sm _ _ n.hou,sm _ _ n.roa⟩
noncomputable def spHousesM (C:Addr):Sp:=fun vs H Q _=>∃(x a' b':Addr) (xs ys:List L2.V),vs=[.ref x]∧NetAt C H x a' b' xs ys∧∀l,H l=none→Q (.ref l) (upd H l (.lst xs))
noncomputable def spRoadsM (C:Addr):Sp:=fun vs H Q _=>∃(x a' b':Addr) (xs ys:List L2.V),vs=[.ref x]∧NetAt C H x a' b' xs ys∧∀l,H l=none→Q (.ref l) (upd H l (.lst ys))
noncomputable def hD (hs:List (List Nat)):List PyData:=(hs.map S).map PyData.str
theorem strOk_nm {l:List Nat} (h:Nm l):PyData.canLay0 (.str (S l))=true:=by
 simp only [PyData.canLay0,PyData.strOk,S]
 rw [Array.all_eq_true_iff_forall_mem]
 intro x hx
 have:=h.2.2 x (by simpa using hx)
 exact decide_eq_true (by omega)
theorem can_all {ds:List PyData} (h:∀d∈ds,d.canLay0=true):PyData.canLayAll0 ds=true:=by
 induction ds with
 | nil=>rfl
 | cons d r ih=>
  simp only [PyData.canLayAll0,Bool.and_eq_true]
  exact ⟨h d (List.mem_cons_self ..),ih fun e he=>h e (List.mem_cons_of_mem _ he)⟩
theorem depth_all {ds:List PyData} {n:Nat} (h:∀d∈ds,d.depth≤n):PyData.depthAll ds≤n:=by
 induction ds with
 | nil=>exact Nat.zero_le _
 | cons d r ih=>
  simp only [PyData.depthAll]
  exact Nat.max_le.mpr ⟨h d (List.mem_cons_self ..),ih fun e he=>h e (List.mem_cons_of_mem _ he)⟩
theorem shaped_of {d:PyData} {n:Nat} (h1:d.canLay0=true) (h2:d.depth≤n) (h3:n≤64):SeqAt.shaped d=true:=by
 unfold SeqAt.shaped
 rw [h1,decide_eq_true (Nat.le_trans h2 h3)]
 rfl
theorem ne_self {d:PyData} (h:d.canLay0=true):(if true=true then !PyData.eqv d d else PyData.eqv d d)=false:=by
 rw [eqv_self d h]
 rfl
theorem make_same {Hc H4:Hp} {x dx:Addr} {o u:HO} (hx:Hc x=none) (hd:Hc dx=none) (sb:SameBut x (upd (upd Hc dx o) x u) H4):Same Hc H4:=fun b v e=>by
 have n1:=ne_of_none e hx
 have n2:=ne_of_none e hd
 refine sb b v n1 ?_
 rw [upd_ne n1,upd_ne n2]
 exact e
noncomputable def spLaw (K:PySem.W.Frag):Sp:=fun vs H Q _=>∃(a:Addr) (ns:List Int),vs=[.ref a]∧SqL K H a (ns.map V.int)∧ns.length≤63∧∀H',Q (.bl true) H'
noncomputable def excChk (cd:ClassData) (sl:Array (Option Value)) (C R:Addr):Bool:=match cd.mro,sl.toList with
  | .ref C'::bm,[_,_,_,_,some (.builtin _),_]=>C'==C && !cd.hasDel && bm.contains (.type "BaseException") && (Value.ref C::bm).contains (.ref R)
  | _,_=>false
theorem excSub_of {K:PySem.W.Frag} {C R:Addr} {dd:Option Addr} {cd:ClassData} {sl:Array (Option Value)} (l:K.lookup C=some ⟨.type "type",dd,.cls cd,sl⟩) (h:excChk cd sl C R=true):excSub K C R=true:=by
 unfold excSub
 rw [l]
 exact h
theorem kit_ib (K:PySem.W.Frag):PySem.W.kitOne K (.type "int") (.type "bool")=some false:=by
 show (if (Value.type "int"==Value.type "bool")=true then some true else if PySem.W.kitMeta "bool"=true then (fastBuiltinMro "int").map (·.contains (.type "bool")) else none)=some false
 decide+kernel
theorem ne_int {i j:Int} (h:i≠j):decide (V.int i=V.int j)=false:=decide_eq_false fun z=>h (V.int.inj z)
end
open PySem L2 L3 M1
section
variable {P:Program} {w:World} {K:PySem.W.Frag} {mg:Str→Option Value} {base:Heap}
noncomputable def top (i:Nat):Stmt:=PySem.Challenge.pw_postroad_k71_letters_posted.main.body.getD i (.Pass ⟨0,0,0,0⟩)
end
open PySem L2 L3 M1
mutual
inductive Th (H:Hp):L2.V→PyData→Prop
 | non:Th H .non .none
 | bl (b:Bool):Th H (.bl b) (.bool b)
 | int (i:Int):Th H (.int i) (.int i)
 | str (x:Str) (z:x.length≤100) (ok:PyData.strOk x=true):Th H (.str x) (.str x)
 | lst {a:Addr} {xs:List L2.V} {ds:List PyData}:H a=some (.lst xs)→xs.length≤100→Ths H xs ds→Th H (.ref a) (.list ds)
 | tup {a:Addr} {xs:List L2.V} {ds:List PyData}:H a=some (.tup xs)→xs.length≤100→Ths H xs ds→Th H (.ref a) (.tuple ds)
inductive Ths (H:Hp):List L2.V→List PyData→Prop
 | nil:Ths H [] []
 | cons {v:L2.V} {d:PyData} {vs:List L2.V} {ds:List PyData}:Th H v d→Ths H vs ds→Ths H (v::vs) (d::ds)
end
mutual
theorem Th.same {H H':Hp} (sm:Same H H'):∀{v:L2.V} {d:PyData},Th H v d→Th H' v d
 | _,_,.non=>.non
 | _,_,.bl b=>.bl b
 | _,_,.int i=>.int i
 | _,_,.str x z ok=>.str x z ok
 | _,_,.lst h z t=>.lst (sm _ _ h) z (Ths.same sm t)
 | _,_,.tup h z t=>.tup (sm _ _ h) z (Ths.same sm t)
theorem Ths.same {H H':Hp} (sm:Same H H'):∀{vs:List L2.V} {ds:List PyData},Ths H vs ds→Ths H' vs ds
 | _,_,.nil=>.nil
 | _,_,.cons a b=>.cons (Th.same sm a) (Ths.same sm b)
end
mutual
theorem Th.dt {K:PySem.W.Frag} {H:Hp}:∀{v:L2.V} {d:PyData},Th H v d→Dt K H v d
 | _,_,.non=>.non
 | _,_,.bl b=>.bl b
 | _,_,.int i=>.int i
 | _,_,.str x z ok=>.str x
 | _,_,.lst h z t=>.lst (SqL.of h) (Ths.dt t)
 | _,_,.tup h z t=>.tup (SqT.of h) (Ths.dt t)
theorem Ths.dt {K:PySem.W.Frag} {H:Hp}:∀{vs:List L2.V} {ds:List PyData},Ths H vs ds→Dts K H vs ds
 | _,_,.nil=>.nil
 | _,_,.cons a b=>.cons (Th.dt a) (Ths.dt b)
end
mutual
theorem Th.can {H:Hp}:∀{v:L2.V} {d:PyData},Th H v d→d.canLay0=true
 | _,_,.non=>rfl
 | _,_,.bl b=>rfl
 | _,_,.int i=>rfl
 | _,_,.str x z ok=>ok
 | _,_,.lst h z t=>Ths.can t
 | _,_,.tup h z t=>Ths.can t
theorem Ths.can {H:Hp}:∀{vs:List L2.V} {ds:List PyData},Ths H vs ds→PyData.canLayAll0 ds=true
 | _,_,.nil=>rfl
 | _,_,.cons a b=>by
  simp only [PyData.canLayAll0,Bool.and_eq_true]
  exact ⟨Th.can a,Ths.can b⟩
end
mutual
theorem Th.inj {H:Hp}:∀{v:L2.V} {d e:PyData},Th H v d→Th H v e→d=e
 | _,_,_,.non,.non=>rfl
 | _,_,_,.bl b,.bl _=>rfl
 | _,_,_,.int i,.int _=>rfl
 | _,_,_,.str x _ _,.str _ _ _=>rfl
 | _,_,_,.lst h _ t,.lst h' _ t'=>by
  rw [h] at h'
  cases h'
  rw [Ths.inj t t']
 | _,_,_,.tup h _ t,.tup h' _ t'=>by
  rw [h] at h'
  cases h'
  rw [Ths.inj t t']
 | _,_,_,.lst h _ _,.tup h' _ _=>by rw [h] at h';cases h'
 | _,_,_,.tup h _ _,.lst h' _ _=>by rw [h] at h';cases h'
theorem Ths.inj {H:Hp}:∀{vs:List L2.V} {ds es:List PyData},Ths H vs ds→Ths H vs es→ds=es
 | _,_,_,.nil,.nil=>rfl
 | _,_,_,.cons a b,.cons a' b'=>by rw [Th.inj a a',Ths.inj b b']
end
theorem Ths.len {H:Hp}:∀{vs:List L2.V} {ds:List PyData},Ths H vs ds→vs.length=ds.length
 | _,_,.nil=>rfl
 | _,_,.cons _ b=>by simp [Ths.len b]
theorem Ths.get {H:Hp}:∀{vs:List L2.V} {ds:List PyData} {i:Nat} {v:L2.V},Ths H vs ds→vs[i]?=some v→∃d,ds[i]?=some d∧Th H v d
 | _,_,_,_,.nil,e=>by simp at e
 | _,_,0,_,.cons a _,e=>by simp at e;subst e;exact ⟨_,rfl,a⟩
 | _,_,i+1,v,.cons _ b,e=>by
  obtain ⟨d,h1,h2⟩:=Ths.get (i:=i) (v:=v) b (by simpa using e)
  exact ⟨d,by simpa using h1,h2⟩
open Classical in
noncomputable def datum (H:Hp) (v:L2.V):PyData:=if h:∃d,Th H v d then Classical.choose h else .none
theorem datum_of {H:Hp} {v:L2.V} {d:PyData} (h:Th H v d):datum H v=d:=by
 have q:∃d,Th H v d:=⟨d,h⟩
 unfold datum
 rw [dif_pos q]
 exact Th.inj (Classical.choose_spec q) h
noncomputable def tyN:PyData→String
 | .none=>"NoneType"
 | .bool _=>"bool"
 | .int _=>"int"
 | .str _=>"str"
 | .list _=>"list"
 | .tuple _=>"tuple"
 | .dict _=>"dict"
theorem Th.ty {K:PySem.W.Frag} {H:Hp} {v:L2.V} {d:PyData} (h:Th H v d):TyOf K H v (.type (tyN d)):=by
 cases h with
 | non=>exact .non
 | bl b=>exact .bl b
 | int i=>exact .int i
 | str x _ _=>exact .str x
 | lst h _ _=>exact .lst h
 | tup h _ _=>exact .tup h
noncomputable def kitB (t c:String):Option Bool:=if (Value.type t==Value.type c)=true then some true else if PySem.W.kitMeta c=true then (fastBuiltinMro t).map (·.contains (.type c)) else none
theorem kit_b (K:PySem.W.Frag) {t c:String} {b:Bool} (h:kitB t c=some b):PySem.W.kitOne K (.type t) (.type c)=some b:=h
noncomputable def isTup:PyData→Bool | .tuple _=>true | _=>false
noncomputable def isBool:PyData→Bool | .bool _=>true | _=>false
noncomputable def isIntB:PyData→Bool | .int _=>true | .bool _=>true | _=>false
theorem kb_tuple (d:PyData):kitB (tyN d) "tuple"=some (isTup d):=by cases d <;> (show kitB _ _=some _;simp only [tyN,isTup];decide+kernel)
theorem kb_bool (d:PyData):kitB (tyN d) "bool"=some (isBool d):=by cases d <;> (show kitB _ _=some _;simp only [tyN,isBool];decide+kernel)
theorem kb_int (d:PyData):kitB (tyN d) "int"=some (isIntB d):=by cases d <;> (show kitB _ _=some _;simp only [tyN,isIntB];decide+kernel)
noncomputable def isWholeD:PyData→Bool
 | .int _=>true
 | _=>false
noncomputable def withinD (lo hi:Int):PyData→Bool
 | .int i=>decide (lo≤i) && decide (i≤hi)
 | _=>false
noncomputable def inD (d:PyData) (ds:List PyData):Bool:=ds.any fun z=>PyData.eqv z d
noncomputable def unlikeD (hs:List PyData) (a b:PyData):Bool:=inD a hs && inD b hs && !PyData.eqv a b
end K1
namespace L3
open PySem PySem.Spec PyProof.Rows L2
end L3
namespace K1
open PySem PySem.Spec PyProof.Rows L2 L3 M1
structure Pd where
 p:Hp→L2.V→Prop
 up:∀{H H':Hp} {v:L2.V},Same H H'→p H v→p H' v
noncomputable def da (d:PyData):Pd:=⟨fun H v=>Th H v d,fun sm h=>h.same sm⟩
noncomputable def sq (K:PySem.W.Frag) (xs:List L2.V):Pd:=⟨fun H v=>∃a,v=.ref a∧SqL K H a xs,fun sm ⟨a,e,h⟩=>⟨a,e,sm.seq h⟩⟩
section
variable {X:Cx} {e a b:Expr} {es:List Expr} {pos p2:Pos} {Γ:List (Option Pd)} {A B R:Pd}
theorem th_int {H v i} (h:Th H v (.int i)):v=.int i:=by cases h;rfl
theorem th_str {H v x} (h:Th H v (.str x)):v=.str x∧x.length≤100∧PyData.strOk x=true:=by cases h;exact ⟨rfl,by assumption,by assumption⟩
theorem th_lst {H v ds} (h:Th H v (.list ds)):∃a xs,v=.ref a∧H a=some (.lst xs)∧xs.length≤100∧Ths H xs ds:=by cases h;exact ⟨_,_,rfl,by assumption,by assumption,by assumption⟩
theorem th_tup {H v ds} (h:Th H v (.tuple ds)):∃a xs,v=.ref a∧H a=some (.tup xs)∧xs.length≤100∧Ths H xs ds:=by cases h;exact ⟨_,_,rfl,by assumption,by assumption,by assumption⟩
variable {i j:Int}
noncomputable def cutD (xs:List PyData) (lo hi:Option Int):List PyData:=(xs.drop (HT.sIx xs.length 0 lo)).take (HT.sIx xs.length xs.length hi - HT.sIx xs.length 0 lo)
variable {st:List Stmt}
end
open PySem L2 L3 M1
noncomputable abbrev L (x:String):Str:=Str.ofString x
noncomputable def DR (a b:Str) (t m f:Int):List PyData:=
 ([.list [.str a,.str b,.int t,.int m],.tuple (cutD [.str a,.str b,.int t,.int m] none (some 3)),.tuple ([.str a,.str b,.int t,.int m]++[.int 1]),.none,.tuple [.str a,.str (L "noshow"),.int t,.int m],.tuple [.str a,.str a,.int 1,.int 1]]
  ++[.tuple [.str (L ""),.str b,.int 1,.int 1],.tuple [.str a,.str b,.int 0,.int m],.tuple [.str a,.str b,.int (10+f),.int m]]
  ++[.tuple [.str a,.str b,.bool true,.int 1],.tuple [.str a,.str b,.str (L "1"),.int 1],.tuple [.str a,.str b,.int t,.int 0],.str (L "road")]
  ++[.tuple [.str a,.str b,.int 1,.int (10 ^ (9:Int).toNat+1+f)],.tuple [.str a,.str b,.int 1,.int (-1 - f)]]
  ++[.tuple [.str a,.str b,.int 1,.bool true],.tuple [.str a,.str b,.int 1,.none],.tuple [.list [.str a],.str b,.int 1,.int 1]]
  ++[.tuple [.none,.str b,.int 1,.int 1],.tuple []])
noncomputable def dR (a b:Str) (t m c:Int):PyData:=(DR a b t m (c % 10 ^ (30:Int).toNat)).getD (c % 20).toNat .none
theorem inD_hD {hs:List (List Nat)} {y:Str} (h:y∉hs.map S):inD (.str y) (hD hs)=false:=by
 unfold inD
 rw [Bool.eq_false_iff]
 intro z
 obtain ⟨v,hv,e⟩:=List.any_eq_true.mp z
 obtain ⟨u,hu,rfl⟩:=List.mem_map.mp hv
 have e':(u==y)=true:=e
 exact h (eq_of_beq e'▸hu)
theorem ths_hD {H:Hp}:∀{hs:List (List Nat)},(∀x∈hs,Nm x)→Ths H (txs hs) (hD hs)
 | [],_=>.nil
 | l::hs,h=>.cons (.str (S l) (by rw [S_len];have:=(h l (List.mem_cons_self ..)).2.1;omega) (strOk_nm (h l (List.mem_cons_self ..)))) (ths_hD fun x hx=>h x (List.mem_cons_of_mem _ hx))
theorem th_hD {H:Hp} {a:Addr} {hs:List (List Nat)} (G:Good hs) (h:H a=some (.lst (txs hs))):Th H (.ref a) (.list (hD hs)):=.lst h (by rw [txs_len];have:=G.few;omega) (ths_hD G.nm)
end K1
namespace M1
open PySem
noncomputable def hsz (c:Int):Nat:=(1+c % 8).toNat
noncomputable def hpl (c:Int):Nat:=(c / 8 % (1+c % 8)).toNat
noncomputable def hch (c:Int) (k j:Nat):Nat:=97+((c / 64+5 * (j:Int) * (j:Int)+2 * (k:Int) * (if j=hpl c then 1 else 0)) % 26).toNat
noncomputable def hnm (c:Int) (k:Nat):List Nat:=(List.range (hsz c)).map (hch c k)
noncomputable def housesN (c:Int) (m:Nat):List (List Nat):=(List.range m).map (hnm c)
theorem hsz_ok (c:Int):1≤hsz c∧hsz c≤8:=by unfold hsz;omega
theorem hsz_int (c:Int):(1+c % 8)=(hsz c:Int):=by unfold hsz;omega
theorem hpl_lt (c:Int):hpl c < hsz c:=by
 have h1:0 < 1+c % 8:=by omega
 have h2:=Int.emod_lt_of_pos (c / 8) h1
 have h3:=Int.emod_nonneg (c / 8) (by omega:1+c % 8≠0)
 unfold hpl hsz
 omega
theorem hpl_int (c:Int):c / 8 % (1+c % 8)=(hpl c:Int):=by
 have h3:=Int.emod_nonneg (c / 8) (by omega:1+c % 8≠0)
 unfold hpl
 omega
theorem hch_ok (c:Int) (k j:Nat):97≤hch c k j∧hch c k j≤122:=by unfold hch;omega
theorem hnm_nm (c:Int) (k:Nat):Nm (hnm c k):=by
 have h:=hsz_ok c
 refine ⟨by simp [hnm];omega,by simp [hnm];omega,fun x hx=>?_⟩
 obtain ⟨j,_,rfl⟩:=List.mem_map.mp hx
 exact hch_ok c k j
theorem hnm_inj {c:Int} {k l:Nat} (hk:k < 13) (hl:l < 13) (e:hnm c k=hnm c l):k=l:=by
 have h:=hpl_lt c
 have e2:(hnm c k)[hpl c]?=(hnm c l)[hpl c]?:=by rw [e]
 unfold hnm at e2
 rw [List.getElem?_map,List.getElem?_map,List.getElem?_range h] at e2
 have e3:hch c k (hpl c)=hch c l (hpl c):=by simpa using e2
 unfold hch at e3
 rw [if_pos rfl] at e3
 generalize c / 64+5 * (hpl c:Int) * (hpl c:Int)=z at e3
 omega
theorem nd_map_range {α:Type} {f:Nat→α} {m:Nat} (h:∀i j,i < m→j < m→f i=f j→i=j):((List.range m).map f).Nodup:=by
 refine List.pairwise_map.mpr ?_
 refine List.Pairwise.imp_of_mem ?_ (List.nodup_range (n:=m))
 intro a b ha hb hab e
 exact hab (h a b (List.mem_range.mp ha) (List.mem_range.mp hb) e)
theorem housesN_nd {c:Int} {m:Nat} (h:m≤12):(housesN c m).Nodup:=nd_map_range fun i j hi hj e=>hnm_inj (by omega) (by omega) e
theorem housesN_len (c:Int) (m:Nat):(housesN c m).length=m:=by simp [housesN]
structure Lt where
 a:Nat
 b:Nat
 t:Int
noncomputable def lnum (c:Int):Int:=c * 982451653 % 10000000000037
noncomputable def lbeg (n:Nat) (c:Int):Int:=lnum c % n
noncomputable def lend (n:Nat) (c:Int):Int:=(lbeg n c+1+lnum c / n % ((n:Int) - 1)) % n
noncomputable def lt (n:Nat) (c base:Int):Lt:=⟨(lbeg n c).toNat,(lend n c).toNat,base+lnum c / 1000 % 31⟩
end M1
namespace L3
open PySem PySem.Spec PyProof.Rows L2
noncomputable def Calm {α:Type}:Sem α→Prop
 | .pure _=>True
 | .raise _=>True
 | .unsupported _=>True
 | .finish _=>True
 | .register _ _=>True
 | .rule _ k=>Calm (k ())
 | .at _ k=>Calm (k ())
 | .load _ _ k=>∀o,Calm (k o)
 | .update _ _ f k=>(∀o,(f o).dict=o.dict)∧Calm (k ())
 | .alloc _ k=>∀a,Calm (k a)
 | .loadIfAlive _ k=>∀o,Calm (k o)
 | .point _ k=>Calm (k ())
 | .fresh k=>∀t,Calm (k t)
 | .ask k=>∀t,Calm (k t)
 | .handled _ k=>∀t,Calm (k t)
 | .stack k=>∀t,Calm (k t)
 | .thread k=>∀n,Calm (k n)
 | _=>False
noncomputable def SameD (h h':Heap):Prop:=h.objs.size≤h'.objs.size∧∀e,e < h.objs.size→(h'.objs[e]?).map (·.dict)=(h.objs[e]?).map (·.dict)
theorem SameD.refl (h:Heap):SameD h h:=⟨Nat.le_refl _,fun _ _=>rfl⟩
theorem SameD.trans {h h1 h2:Heap} (a:SameD h h1) (b:SameD h1 h2):SameD h h2:=⟨Nat.le_trans a.1 b.1,fun e he=>(b.2 e (Nat.lt_of_lt_of_le he a.1)).trans (a.2 e he)⟩
theorem SameD.push (h:Heap) (o:Obj):SameD h (h.push o):=by
 obtain ⟨objs,l⟩:=h
 refine ⟨?_,fun e he=>?_⟩
 ·show objs.size≤(objs.push o).size
  simp
 ·show ((objs.push o)[e]?).map _=_
  rw [Array.getElem?_push_lt he]
  simp [he]
theorem SameD.update (h:Heap) (a:Addr) {f:Obj→Obj} (hf:∀o,(f o).dict=o.dict):SameD h (h.update a f):=by
 obtain ⟨objs,l⟩:=h
 refine ⟨?_,fun e he=>?_⟩
 ·show objs.size≤(objs.modify a f).size
  simp
 ·show ((objs.modify a f)[e]?).map _=_
  rw [Array.getElem?_modify]
  split
  ·cases objs[e]? with
   | none=>rfl
   | some o=>show some (f o).dict=_;rw [hf];rfl
  ·rfl
theorem SameD.dict {h h':Heap} (s:SameD h h') {e:Addr} {o o':Obj} (a:h.get? e=some o) (b:h'.get? e=some o'):o'.dict=o.dict:=by
 have h1:=(Heap.get?_some_iff.mp a).1
 have h2:=(Heap.get?_some_iff.mp b).1
 have:=s.2 e (Heap.lt_size a)
 rw [h1,h2] at this
 exact Option.some.inj this
theorem wp_calm {α:Type} {M:Model} {Γ:PySem.Ctx} {Q:α→Pos→Shared→Prop} {E:Value→Pos→Shared→Prop} (t:Sem α) (hc:Calm t) (p:Pos) (s:Shared) (h:Sem.wp M Γ t Q E p s):
  Sem.wp M Γ t (fun a p' s'=>Q a p' s'∧SameD s.heap s'.heap) (fun a p' s'=>E a p' s'∧SameD s.heap s'.heap) p s:=by
 have key:∀(t:Sem α),Calm t→∀(p:Pos) (s:Shared) (h0:Heap),SameD h0 s.heap→Sem.wp M Γ t Q E p s→Sem.wp M Γ t (fun a p' s'=>Q a p' s'∧SameD h0 s'.heap) (fun a p' s'=>E a p' s'∧SameD h0 s'.heap) p s:=by
  intro t
  induction t with
  | pure a=>exact fun _ p s h0 sd h=>⟨h,sd⟩
  | raise e=>exact fun _ p s h0 sd h=>⟨h,sd⟩
  | unsupported=>exact fun _ p s h0 sd h=>h
  | finish=>exact fun _ p s h0 sd h=>h
  | register=>exact fun _ p s h0 sd h=>h
  | rule _ k ih=>exact fun c p s h0 sd h=>ih () c p s h0 sd h
  | «at» _ k ih=>exact fun c p s h0 sd h=>ih () c _ s h0 sd h
  | load a _ k ih=>exact fun c p s h0 sd ⟨o,e,h⟩=>⟨o,e,ih o (c o) p s h0 sd h⟩
  | update a _ f k ih=>exact fun c p s h0 sd ⟨e,h⟩=>⟨e,ih () c.2 p _ h0 (sd.trans (SameD.update _ _ c.1)) h⟩
  | alloc o k ih=>exact fun c p s h0 sd h=>ih _ (c _) p _ h0 (sd.trans (SameD.push _ _)) h
  | loadIfAlive a k ih=>exact fun c p s h0 sd h=>ih _ (c _) p s h0 sd h
  | point _ k ih=>exact fun c p s h0 sd h=>ih () c p s h0 sd h
  | fresh k ih=>exact fun c p s h0 sd h=>ih _ (c _) p _ h0 sd h
  | ask k ih=>exact fun c p s h0 sd h=>ih _ (c _) p s h0 sd h
  | handled _ k ih=>exact fun c p s h0 sd h=>ih _ (c _) p s h0 sd h
  | stack k ih=>exact fun c p s h0 sd h=>ih _ (c _) p s h0 sd h
  | thread k ih=>exact fun c p s h0 sd h=>ih _ (c _) p s h0 sd h
  | choose=>exact fun c=>c.elim
  | os=>exact fun c=>c.elim
  | call=>exact fun c=>c.elim
  | newGen=>exact fun c=>c.elim
  | genState=>exact fun c=>c.elim
  | resume=>exact fun c=>c.elim
  | yield=>exact fun c=>c.elim
  | fork=>exact fun c=>c.elim
  | await=>exact fun c=>c.elim
 exact key t hc p s s.heap (SameD.refl _) h
theorem any_calm {α:Type} {M:Model} {A:Around} {Q:α→Shared→Prop} {E:Value→Shared→Prop} {t:Sem α} {s:Shared} (hc:Calm t) (h:wpAny M A t Q E s):wpAny M A t (fun a s'=>Q a s'∧SameD s.heap s'.heap) (fun a s'=>E a s'∧SameD s.heap s'.heap) s:=
 fun Γ p hΓ=>wp_calm t hc p s (h Γ p hΓ)
theorem calm_bind {α β:Type} {t:Sem α} {f:α→Sem β} (h:Calm t) (hf:∀a,Calm (f a)):Calm (t >>=f):=by
 show Calm (t.bind f)
 induction t with
 | pure a=>exact hf a
 | raise e=>exact h
 | unsupported=>exact h
 | finish=>exact h
 | register=>exact h
 | rule _ k ih=>exact ih () h
 | «at» _ k ih=>exact ih () h
 | load a _ k ih=>exact fun o=>ih o (h o)
 | update a _ f k ih=>exact ⟨h.1,ih () h.2⟩
 | alloc o k ih=>exact fun a=>ih a (h a)
 | loadIfAlive a k ih=>exact fun a=>ih a (h a)
 | point _ k ih=>exact ih () h
 | fresh k ih=>exact fun a=>ih a (h a)
 | ask k ih=>exact fun a=>ih a (h a)
 | handled _ k ih=>exact fun a=>ih a (h a)
 | stack k ih=>exact fun a=>ih a (h a)
 | thread k ih=>exact fun a=>ih a (h a)
 | choose=>exact h.elim
 | os=>exact h.elim
 | call=>exact h.elim
 | newGen=>exact h.elim
 | genState=>exact h.elim
 | resume=>exact h.elim
 | yield=>exact h.elim
 | fork=>exact h.elim
 | await=>exact h.elim
theorem calm_pure {α:Type} {a:α}:Calm (pure a:Sem α):=trivial
theorem calm_uns {α:Type} {x:String}:Calm (unsupported x:Sem α):=trivial
theorem calm_ite {α:Type} {c:Prop} [Decidable c] {a b:Sem α} (ha:Calm a) (hb:Calm b):Calm (if c then a else b):=by split <;> assumption
theorem calm_load {a:Addr}:Calm (load a):=fun _=>trivial
theorem calm_fieldsOf {v:Value}:Calm (fieldsOf v):=by
 unfold fieldsOf
 cases v <;> first | exact calm_uns | skip
 refine calm_bind calm_load fun o=>?_
 split <;> first | exact calm_pure | exact calm_uns
theorem calm_field {v:Value} {i:Nat}:Calm (field v i):=by
 unfold field
 refine calm_bind calm_fieldsOf fun o=>?_
 split <;> first | exact calm_pure | exact calm_uns
theorem calm_setField {v:Value} {i:Nat} {x:Value}:Calm (setField v i x):=by
 unfold setField
 cases v <;> first | exact calm_uns | skip
 refine calm_bind calm_load fun o=>?_
 split
 ·refine calm_ite ⟨fun o=>?_,trivial⟩ calm_uns
  obtain ⟨c,d,dt,sl⟩:=o
  cases dt <;> rfl
 ·exact calm_uns
theorem calm_setFlight {v:Value} {f:Option Addr}:Calm (setFlight v f):=by
 unfold setFlight
 refine calm_bind calm_field fun o=>calm_ite calm_setField calm_pure
theorem calm_stack:Calm stack:=fun _=>trivial
theorem calm_newFields {ty:String} {vs:List Value}:Calm (newFields ty vs):=by
 have as:Calm (newObjAsIs (.type ty) (.fields vs.toArray)):=by
  unfold newObjAsIs
  exact calm_bind (fun _=>trivial) fun a=>calm_pure
 unfold newFields newObj
 exact calm_ite (c:=vs.toArray.size > sizeLine+2) (calm_bind calm_uns fun _=>as) as
theorem calm_place {f:Addr} {b:Bool}:Calm (entryPlaceOf f b):=by
 unfold entryPlaceOf
 refine calm_bind calm_stack fun o=>?_
 split <;> exact calm_pure
theorem calm_behind {env:Env} {outer:List Env}:Calm (behindIsImport env outer):=by
 unfold behindIsImport
 exact calm_ite calm_pure (calm_ite calm_pure (calm_bind calm_field fun _=>calm_pure))
theorem calm_back {env:Env} {b:Bool} {l:List Env}:Calm (keptBack env b l):=by
 unfold keptBack
 split
 ·refine calm_ite calm_pure (calm_bind ?_ fun _=>calm_pure)
  exact calm_bind calm_stack fun _=>calm_pure
 ·exact calm_pure
theorem calm_ready:∀l:List Env,Calm (readyFrames l)
 | []=>trivial
 | env::outer=>by
  unfold readyFrames
  split
  ·exact calm_bind calm_load fun o=>calm_ite calm_pure (calm_bind calm_behind fun _=>calm_bind calm_back fun _=>calm_bind ⟨fun _=>rfl,trivial⟩ fun _=>calm_ready outer)
  ·exact calm_uns
theorem calm_frameOf {env:Env}:Calm (PySem.frameOf env):=by
 unfold PySem.frameOf frameEnvs
 refine calm_bind (calm_bind calm_stack fun _=>calm_pure) fun l=>calm_bind ?_ fun o=>?_
 ·generalize List.dropWhile _ l=l'
  cases l' with
  | nil=>exact calm_pure
  | cons a b=>exact calm_bind (calm_ready _) fun _=>calm_pure
 ·split <;> first | exact calm_pure | exact calm_uns
theorem calm_note {e:Value} {env:Env}:Calm (noteFrame e env):=by
 unfold noteFrame
 have last:∀(f:Addr) (head:Value),Calm (do
   let a ←PySem.frameOf env
   let b ←entryPlaceOf f (head !=Value.none)
   let c ←EntryCells.newEntry head a Value.none (rawInt f) Value.none b
   setField e 1 c):=fun f head=>calm_bind calm_frameOf fun _=>calm_bind calm_place fun _=>calm_bind calm_newFields fun _=>calm_setField
 split
 ·exact calm_bind calm_field fun head=>calm_ite (calm_bind calm_field fun _=>calm_ite calm_pure (calm_bind calm_setField fun _=>last _ _)) (last _ _)
 ·exact calm_uns
theorem calm_leaving {e:Value} {env:Env}:Calm (leaving env e):=calm_bind calm_note fun _=>calm_setFlight
noncomputable def excICk (cC cR:ClassData) (sC:Array (Option Value)) (C:Addr) (newId:String):Bool:=
 (cC.mro==Value.ref C::cR.mro) && !cC.hasDel && (match sC.toList with | [_,_,_,_,some (.builtin n),_]=>n==newId | _=>false)
theorem excI_obj {K:PySem.W.Frag} {mg:Str→Option Value} {h:Heap} {y:Str} {C R:Addr} {bm:List Value} {newId:String} {dC dR:Option Addr} {cC cR:ClassData} {sC sR:Array (Option Value)} (X:K.In h) (O:Exc K mg y R bm newId)
  (lC:K.lookup C=some ⟨.type "type",dC,.cls cC,sC⟩) (lR:K.lookup R=some ⟨.type "type",dR,.cls cR,sR⟩) (ck:excICk cC cR sC C newId=true):
  ∃nm q N bs tl sn sub ab col k0 k1 k2 k3 k5,h.get? C=some (excClassObj nm q C N bs tl cC.hasDict sn sub ab col dC k0 k1 k2 k3 k5 newId)∧OwnTail h bm tl:=by
 obtain ⟨tl,Nn,nm,q,bs,hdct,sn,sub,ab,col,dd,k0,k1,k2,k3,k5,mN,hR,hN,hni,T⟩:=(O.own X).obj
 have hR':=X _ _ lR
 have e1:=hR'.symm.trans hR
 have e2:=Option.some.inj e1
 have hm:cR.mro=Value.ref R::tl:=by
  have e3:(Data.cls cR)=_:=congrArg Obj.data e2
  injection e3 with e3
  rw [e3]
 unfold excICk at ck
 simp only [Bool.and_eq_true,beq_iff_eq,Bool.not_eq_true'] at ck
 obtain ⟨⟨c1,c2⟩,c3⟩:=ck
 split at c3
 ·rename_i j0 j1 j2 j3 n j5 hs
  have c3:=beq_iff_eq.mp c3
  subst c3
  obtain ⟨nm',bs',mro',ns',qn',hd',sn',sub',ab',col',del'⟩:=cC
  dsimp only at c1 c2
  rw [hm] at c1
  subst c1 c2
  obtain ⟨sll⟩:=sC
  simp only at hs
  subst hs
  exact ⟨_,_,_,_,_,_,_,_,_,_,_,_,_,_,X _ _ lC,.own hR hN hni T⟩
 ·cases c3
section
variable {prog:Program} {w:World} {A:Around} {E:Value→Shared→Prop} {s:Shared} {K:PySem.W.Frag}
variable {nm q:Str} {C N fI:Addr} {bs bm tl:List Value} {hd:Bool} {sn:List Str} {sub:List Value} {ab:Bool} {col:Option Bool} {dC:Option Addr} {k0 k1 k2 k3 k5:Option Value} {B newId initId:String}
theorem call_excI (F:ExcBaseFacts B newId initId bm) {rest:List Value} {Q:Value→Shared→Prop} (T:OwnTail s.heap bm tl) (X:K.In s.heap) (hC:s.heap.get? C=some (excClassObj nm q C N bs tl hd sn sub ab col dC k0 k1 k2 k3 k5 newId))
  (hi:PySem.W.findIn K (.ref C) "__init__"=some (some (.ref fI))) (hf:PySem.W.typeIn K (.ref fI)=some (.type "function")) (hrest:rest.length≤sizeLine)
  (hq:∀h' e,s.heap.objs.size≤e→Heap.MadeExcOf s.heap h' e (.ref C) rest→wpAny (model prog w) (A.under (.builtin "type.__call__" ⟨.ref C::rest,[]⟩)) (call (.ref fI) (.ref e::rest)) (fun r s'=>r=.none∧Q (.ref e) s') E {s with heap:=h'}):
  wpAny (model prog w) A (call (.ref C) rest) Q E s:=by
 obtain ⟨h,g,d,t,os⟩:=s
 have f1:=tc_lookup
 have f2:=tc_bind (.ref C)
 have hT:(⟨h,g,d,t,os⟩:Shared).TypeIs (.ref C) "type":=⟨_,hC,rfl⟩
 refine wpAny_call (codeAny_of_tree (show wpAny _ _ (callAny (.ref C) _) _ _ _ from ?_))
 repeat (any_goals (first | assumption | with_reducible refine wpAny_loadPart_at hC ?_ | wp_step))
 refine ⟨rfl,codeAny_call_builtin_at (Code.quiet_builtin _ (by decide+kernel)) entry_typeCall (wpAny_check_type_call_sub hC ?_)⟩
 repeat (first | with_reducible refine wpAny_madeBy_exc hC ?_ | with_reducible refine wpAny_loadPart_at hC ?_ | wp_step)
 refine codeAny_call_builtin_code (Code.quiet_builtin _ F.quiet) (wpAny_check_new_subT F T hC (codeAny_exc_new_subT F T hC (show wpAny _ _ _ _ _ _ from ?_) hrest))
 have hget:((h.push {cls:=.type "tuple",data:=.seq rest.toArray}).push {cls:=.ref C,data:=.fields #[.ref h.objs.size,.none,.none,.none,.bool false,.none]}).get? (h.objs.size+1)=some {cls:=.ref C,data:=.fields #[.ref h.objs.size,.none,.none,.none,.bool false,.none]}:=by heap_get
 have mk:Heap.MadeExcOf h ((h.push {cls:=.type "tuple",data:=.seq rest.toArray}).push {cls:=.ref C,data:=.fields #[.ref h.objs.size,.none,.none,.none,.bool false,.none]}) (h.objs.size+1) (.ref C) rest:=
  ⟨fun b o hb=>Heap.get?_push_of_some _ (Heap.get?_push_of_some _ hb),Heap.get?_none_of_le (Nat.le_succ _),h.objs.size,hget,Heap.get?_none_of_le (Nat.le_refl _),Heap.get?_push_of_some _ (Heap.get?_push_at rfl rfl)⟩
 have hq2:=hq _ _ (Nat.le_succ _) mk
 have X2:=X.keeps mk.keeps
 have hC2:=mk.keeps _ _ hC
 have hcC:(Value.ref C::tl).contains (.ref C)=true:=by simp
 show wpAny _ _ _ _ _ ⟨(h.push {cls:=.type "tuple",data:=.seq rest.toArray}).push {cls:=.ref C,data:=.fields #[.ref h.objs.size,.none,.none,.none,.bool false,.none]},g,d,t,os⟩
 dsimp only
 generalize (h.push {cls:=.type "tuple",data:=.seq rest.toArray}).push {cls:=.ref C,data:=.fields #[.ref h.objs.size,.none,.none,.none,.bool false,.none]}=h2 at hget mk hq2 X2 hC2 ⊢
 generalize h.objs.size=a0 at hget mk hq2 hC2 ⊢
 unfold isInstance
 repeat (first | with_reducible refine wpAny_loadPart_at hget ?_ | (with_reducible refine wpAny_isSubtype_exc hC2 ?_;rw [hcC]) | wp_step)
 refine (PySem.W.looks_findIn X2 hi).here ?_
 refine wpAny_holding (wpAny_bind ((PySem.W.bind_fn X2 _ hf).here ?_))
 show wpAny _ _ (call (.ref fI) (.ref (a0+1)::rest) >>=fun r=>pure (some r)) _ _ _
 refine wpAny_bind (wpAny_mono hq2 (fun r s' hr=>?_) fun _ _ z=>z)
 obtain ⟨rfl,hQ⟩:=hr
 wp_walk
 exact hQ
theorem base_init (F:ExcBaseFacts B newId initId bm) {R:Result→Shared→Prop} {e t0:Addr} {od:Option Addr} {sl:Array (Option Value)} {rest:List Value} (T:OwnTail s.heap bm tl) (hC:s.heap.get? C=some (excClassObj nm q C N bs tl hd sn sub ab col dC k0 k1 k2 k3 k5 newId))
  (he:s.heap.get? e=some ⟨.ref C,od,.fields #[.ref t0,.none,.none,.none,.bool false,.none],sl⟩) (hrest:rest.length≤sizeLine)
  (hq:∀h' t,(∀b o,b≠e→s.heap.get? b=some o→h'.get? b=some o)→h'.get? e=some ⟨.ref C,od,.fields #[.ref t,.none,.none,.none,.bool false,.none],sl⟩→R (.ok (.ret .none)) {s with heap:=h'}):
  codeAny (model prog w) A (.call (.builtin initId) ⟨.ref e::rest,[]⟩) R s:=by
 obtain ⟨h,g,d,t,os⟩:=s
 refine codeAny_call_builtin F.init.plain F.initEntry (wpAny_check_init_subT F T hC he rfl ?_)
 dsimp only at he ⊢
 wp_walk
 have he1:(h.push {cls:=.type "tuple",data:=.seq rest.toArray}).get? e=_:=Heap.get?_push_of_some _ he
 refine hq _ h.objs.size (fun b o hb hbo=>?_) ?_
 ·show ((h.push _).update e _).get? b=some o
  rw [Heap.get?_update_other _ _ (Ne.symm hb)]
  exact Heap.get?_push_of_some _ hbo
 ·show ((h.push _).update e _).get? e=_
  rw [Heap.get?_update_self _ he1 rfl]
  rfl
theorem tail_refuse {h:Heap} (T:OwnTail h bm tl) (self:Value) (what:Str):refuseLoop self what tl=refuseLoop self what bm:=by
 induction T with
 | base=>rfl
 | own _ _ _ _ ih=>rw [refuseLoop_ref,ih]
theorem store_D {M:Model} {d:Addr} {mA:Str→Option Value} {name:Str} {tk:Tok} {v:Value} {ns:List Str} {Q:Fin→Shared→Prop} (hn:s.heap.Ns1 d mA) (hw:PySem.Within mA ns) (hz:ns.length≤1000)
  (hq:∀h' tk',h'.Ns1 d (fun y=>if y=name then some v else mA y)→Heap.SameBut d s.heap h'→Q (.done (.ret .none)) {s with heap:=h',toks:=tk'}):
  wpAny M A (Builtin.ObjectAttr.storeInDict d (.str name tk) name v) Q E s:=by
 unfold Builtin.ObjectAttr.storeInDict Builtin.ObjectAttr.newKeyGuard
 refine wpAny_bind (wpAny_pure (wpAny_bind (wpAny_nsSet1 hn fun h' hn' hs=>?_)))
 obtain ⟨oD,esD,epD,hoD,hdD,hcD⟩:=hn'.count (PySem.Within.cons name v hw)
 refine wpAny_bind (wpAny_lookBehind hoD (by rw [hdD];exact pastItsLine_dict (Nat.le_trans hcD (by rw [List.length_cons,sizeLine_eq];omega))) ?_)
 exact wpAny_pure (hq _ _ hn' hs)
theorem store_X {x:Addr} {name:Str} {v:Value} {sa owner:String} {vs:Array Value} {sl:Array (Option Value)} {Q:Unit→Shared→Prop} (X:K.In s.heap) (SF:StoreFacts B bm sa owner) (T:OwnTail s.heap bm tl) (hC:s.heap.get? C=some (excClassObj nm q C N bs tl hd sn sub ab col dC k0 k1 k2 k3 k5 newId))
  (hs:PySem.W.findIn K (.ref C) "__setattr__"=some (some (.builtin sa))) (hn:PySem.W.findIn K (.ref C) name=some none) (ho:PySem.W.subIn K (.ref C) (.type owner)=some true) (hx:s.heap.get? x=some ⟨.ref C,none,.fields vs,sl⟩) (hdc:hd=true)
  (hq:∀h' tk',h'.get? x=some ⟨.ref C,some s.heap.objs.size,.fields vs,sl⟩→h'.Ns1 s.heap.objs.size (fun y=>if y=name then some v else none)→(∀b o,b≠x→s.heap.get? b=some o→h'.get? b=some o)→Q () {s with heap:=h',toks:=tk'}):
  wpAny (model prog w) A (setAttr (.ref x) name v) Q E s:=by
 obtain ⟨h,g,d,t,os⟩:=s
 dsimp only at X T hC hx
 have ty:PySem.W.Looks (model prog w) h (typeOf (.ref x)) (.ref C):=(PySem.W.Looks.ld hx).andThen .now
 have ob:PySem.W.Looks (model prog w) h (isInstance (.ref x) (.type owner)) true:=ty.andThen (PySem.W.looks_subIn X ho)
 unfold setAttr callSpecial? specialOf
 have f3:=SF.slot.bind (.ref x)
 repeat (any_goals (first | assumption | with_reducible refine wpAny_loadPart_at hx ?_ | wp_step))
 refine (PySem.W.looks_findIn X hs).here (wpAny_holding (wpAny_bind (wpAny_of_eq f3 (wpAny_bind (wpAny_call (codeAny_call_builtin SF.slot.plain SF.entry (PySem.W.check_slot SF.kind SF.split ob (SF.args _ _ _) ?_)))))))
 have hpass:=SF.passes (.ref x)
 have hp2:refuseLoop (.ref x) "__setattr__" tl=pure ():=(tail_refuse T _ _).trans hpass
 unfold Builtin.«object.__setattr__»
 repeat (first | rw [refuse_eq] | (rw [refuseLoop_ref,hp2]) | with_reducible refine wpAny_loadPart_at hx ?_ | with_reducible refine wpAny_mroOf_exc hC ?_ | wp_step)
 refine (PySem.W.looks_findIn X hn).here (wpAny_bind (wpAny_pure ?_))
 show wpAny _ _ (Builtin.ObjectAttr.storeInOwnDict _ _ _ _ _ _) _ _ _
 unfold Builtin.ObjectAttr.storeInOwnDict
 refine wpAny_bind (wpAny_mono (Q:=fun _ s'=>s'=⟨h,g,d,t+1,os⟩) (E:=fun _ _=>False) ?_ (fun _ _ e1=>?_) (fun _ _ z=>z.elim))
 ·repeat (first | with_reducible refine wpAny_loadPart_at hx ?_ | with_reducible refine wpAny_loadPart_at hC ?_ | wp_step)
  exact rfl
 ·subst e1
  have hxs:x≠h.objs.size:=Nat.ne_of_lt (Heap.lt_size hx)
  have hx1:(h.push {cls:=.type "dict",data:=.dict #[]}).get? x=_:=Heap.get?_push_of_some _ hx
  refine wpAny_bind (wpAny_mono (Q:=fun r s'=>r=some h.objs.size∧s'=⟨(h.push {cls:=.type "dict",data:=.dict #[]}).update x fun o=>{o with dict:=some h.objs.size},g,d,t+1,os⟩) (E:=fun _ _=>False) ?_ (fun _ _ e1=>?_) (fun _ _ z=>z.elim))
  ·show wpAny _ _ (instanceDict x true) _ _ _
   subst hdc
   unfold instanceDict
   repeat (first | with_reducible refine wpAny_loadPart_at hx ?_ | with_reducible refine wpAny_loadPart_at hC ?_ | wp_step)
   exact ⟨rfl,rfl⟩
  ·obtain ⟨rfl,rfl⟩:=e1
   have hgx:((h.push {cls:=.type "dict",data:=.dict #[]}).update x fun o=>{o with dict:=some h.objs.size}).get? x=some ⟨.ref C,some h.objs.size,.fields vs,sl⟩:=by
    rw [Heap.get?_update_self _ hx1 rfl]
   have hgd:((h.push {cls:=.type "dict",data:=.dict #[]}).update x fun o=>{o with dict:=some h.objs.size}).get? h.objs.size=some {cls:=.type "dict",data:=.dict #[]}:=
    (Heap.get?_update_other _ _ hxs).trans (Heap.get?_push_at rfl rfl)
   have hnd:((h.push {cls:=.type "dict",data:=.dict #[]}).update x fun o=>{o with dict:=some h.objs.size}).Ns h.objs.size (fun _=>none):=⟨_,#[],_,hgd,rfl,fun e he=>absurd he (by simp),fun _=>rfl⟩
   refine store_D (mA:=fun _=>none) (ns:=[]) (Heap.Ns1.of_empty hnd) PySem.Within.nil (by decide) fun h' tk' hn' sb=>?_
   refine wpAny_pure (wpAny_pure (hq h' tk' ?_ hn' fun b o hb hbo=>?_))
   ·exact (sb.2 x hxs).trans hgx
   ·refine (sb.2 b (Nat.ne_of_lt (Heap.lt_size hbo))).trans ((Heap.get?_update_other _ _ (Ne.symm hb)).trans (Heap.get?_push_of_some _ hbo))
theorem store_X2 {x dx:Addr} {name:Str} {v:Value} {sa owner:String} {vs:Array Value} {sl:Array (Option Value)} {mA:Str→Option Value} {ns:List Str} {Q:Unit→Shared→Prop} (X:K.In s.heap) (SF:StoreFacts B bm sa owner) (T:OwnTail s.heap bm tl) (hC:s.heap.get? C=some (excClassObj nm q C N bs tl hd sn sub ab col dC k0 k1 k2 k3 k5 newId))
  (hs:PySem.W.findIn K (.ref C) "__setattr__"=some (some (.builtin sa))) (hn:PySem.W.findIn K (.ref C) name=some none) (ho:PySem.W.subIn K (.ref C) (.type owner)=some true) (hx:s.heap.get? x=some ⟨.ref C,some dx,.fields vs,sl⟩) (hdc:hd=true) (hN:s.heap.Ns1 dx mA) (hw:PySem.Within mA ns) (hz:ns.length≤1000)
  (hq:∀h' tk',h'.Ns1 dx (fun y=>if y=name then some v else mA y)→Heap.SameBut dx s.heap h'→Q () {s with heap:=h',toks:=tk'}):
  wpAny (model prog w) A (setAttr (.ref x) name v) Q E s:=by
 obtain ⟨h,g,d,t,os⟩:=s
 dsimp only at X T hC hx hN
 have ty:PySem.W.Looks (model prog w) h (typeOf (.ref x)) (.ref C):=(PySem.W.Looks.ld hx).andThen .now
 have ob:PySem.W.Looks (model prog w) h (isInstance (.ref x) (.type owner)) true:=ty.andThen (PySem.W.looks_subIn X ho)
 unfold setAttr callSpecial? specialOf
 have f3:=SF.slot.bind (.ref x)
 repeat (any_goals (first | assumption | with_reducible refine wpAny_loadPart_at hx ?_ | wp_step))
 refine (PySem.W.looks_findIn X hs).here (wpAny_holding (wpAny_bind (wpAny_of_eq f3 (wpAny_bind (wpAny_call (codeAny_call_builtin SF.slot.plain SF.entry (PySem.W.check_slot SF.kind SF.split ob (SF.args _ _ _) ?_)))))))
 have hp2:refuseLoop (.ref x) "__setattr__" tl=pure ():=(tail_refuse T _ _).trans (SF.passes (.ref x))
 unfold Builtin.«object.__setattr__»
 repeat (first | rw [refuse_eq] | (rw [refuseLoop_ref,hp2]) | with_reducible refine wpAny_loadPart_at hx ?_ | with_reducible refine wpAny_mroOf_exc hC ?_ | wp_step)
 refine (PySem.W.looks_findIn X hn).here (wpAny_bind (wpAny_pure ?_))
 show wpAny _ _ (Builtin.ObjectAttr.storeInOwnDict _ _ _ _ _ _) _ _ _
 unfold Builtin.ObjectAttr.storeInOwnDict
 refine wpAny_bind (wpAny_mono (Q:=fun _ s'=>s'=⟨h,g,d,t+1,os⟩) (E:=fun _ _=>False) ?_ (fun _ _ e1=>?_) (fun _ _ z=>z.elim))
 ·repeat (first | with_reducible refine wpAny_loadPart_at hx ?_ | with_reducible refine wpAny_loadPart_at hC ?_ | wp_step)
  exact rfl
 ·subst e1
  refine wpAny_bind (wpAny_mono (Q:=fun r s'=>r=some dx∧s'=⟨h,g,d,t+1,os⟩) (E:=fun _ _=>False) ?_ (fun _ _ e1=>?_) (fun _ _ z=>z.elim))
  ·show wpAny _ _ (instanceDict x true) _ _ _
   subst hdc
   unfold instanceDict
   repeat (first | with_reducible refine wpAny_loadPart_at hx ?_ | with_reducible refine wpAny_loadPart_at hC ?_ | wp_step)
   exact ⟨rfl,rfl⟩
  ·obtain ⟨rfl,rfl⟩:=e1
   refine store_D hN hw hz fun h' tk' hn' sb=>?_
   exact wpAny_pure (wpAny_pure (hq h' tk' hn' sb))
theorem read_X {x dx:Addr} {name:Str} {v:Value} {vs:Array Value} {sl:Array (Option Value)} {mA:Str→Option Value} {b:Bool} {Q:Value→Shared→Prop} (X:K.In s.heap) (c:ExcC K C) (hn:PySem.W.findIn K (.ref C) name=some none) (hd:PySem.W.hasDictIn K C=true) (hx:s.heap.get? x=some ⟨.ref C,some dx,.fields vs,sl⟩)
  (hN:s.heap.Ns1 dx mA) (hv:mA name=some v) (hh:PySem.W.handedIn v=true) (hq:Q v {s with toks:=s.toks+1}):wpAny (model prog w) A (getAttr (.ref x) name b) Q E s:=by
 refine wpAny_bind (wpAny_mkText ?_)
 refine exc_by (s:={s with toks:=s.toks+1}) X c ⟨_,hx,rfl⟩ fun A'=>codeAny_call_builtin F.excAttr_ValueError.ga.plain F.entry_bexc_ga (check_bga (s:={s with toks:=s.toks+1}) X c ⟨_,hx,rfl⟩ ?_)
 have L0:PySem.W.Looks (model prog w) s.heap (typeOf (.ref x)) (.ref C):=TyAt.type ⟨_,hx,rfl⟩
 have L1:=PySem.W.looks_findIn (M:=model prog w) X hn
 obtain ⟨cd,hcd,hd'⟩:=PySem.W.any_some hd
 have LC:=PySem.W.looks_clsIn (M:=model prog w) X hcd
 obtain ⟨hh0,g,d,t,os⟩:=s
 unfold Builtin.«object.__getattribute__»
 have sa:slotArgs "__getattribute__" 1 ⟨[.ref x,.str name t],[]⟩=pure (.ref x,[.str name t]):=rfl
 rw [sa]
 refine wpAny_bind (wpAny_pure ?_)
 dsimp only
 have an:Builtin.ObjectAttr.attrName (.str name t)=pure name:=rfl
 rw [an]
 refine wpAny_bind (wpAny_pure (wpAny_bind (L0.at (wpAny_bind ?_))))
 unfold Builtin.ObjectAttr.find
 refine wpAny_bind (L1.at (wpAny_bind (wpAny_pure (wpAny_bind (wpAny_pure ?_)))))
 show wpAny _ _ (Builtin.ObjectAttr.ownThenClass _ _ _ _) _ _ _
 unfold Builtin.ObjectAttr.ownThenClass Builtin.ObjectAttr.inOwnDict Builtin.ObjectAttr.ownDict
 refine wpAny_bind (wpAny_bind (wpAny_bind (wpAny_mono (Q:=fun o s'=>o=⟨.ref C,some dx,.fields vs,sl⟩∧s'=⟨hh0,g,d,t+1,os⟩) (E:=fun _ _=>False) ?_ (fun _ _ e1=>?_) (fun _ _ z=>z.elim))))
 ·repeat (first | with_reducible refine wpAny_loadPart_at hx ?_ | wp_step)
  exact ⟨rfl,rfl⟩
 ·obtain ⟨rfl,rfl⟩:=e1
  show wpAny _ _ (instanceDict x false) _ _ _
  unfold instanceDict
  refine wpAny_bind (wpAny_loadPart_at hx ?_)
  dsimp only
  refine wpAny_bind (LC.at ?_)
  rw [hd']
  refine wpAny_pure ?_
  show wpAny _ _ (nsGet dx name) _ _ _
  refine wpAny_nsGet hN.ns ?_
  rw [hv]
  show wpAny _ _ (rule "getattr.instance-dict" >>=fun _=>pure (Builtin.ObjectAttr.Found.value v)) _ _ _
  refine wpAny_bind (wpAny_rule (wpAny_pure (wpAny_pure ?_)))
  show wpAny _ _ (handedOut v) _ _ _
  rw [PySem.W.handedOut_of hh]
  exact wpAny_pure hq
end
open PySem PySem.Spec PyProof.Rows L2
noncomputable def exU (e C:Addr):HO:=.ext fun h=>∃t sl,h.get? e=some ⟨.ref C,none,.fields #[.ref t,.none,.none,.none,.bool false,.none],sl⟩
noncomputable def exF (e C dx:Addr):HO:=.ext fun h=>∃t sl,h.get? e=some ⟨.ref C,some dx,.fields #[.ref t,.none,.none,.none,.bool false,.none],sl⟩
noncomputable def exD (e C dx:Addr):HO:=.ext fun h=>∃vs sl,h.get? e=some ⟨.ref C,some dx,.fields vs,sl⟩
noncomputable def xdO (d:Addr) (fs:List (Str × V)):HO:=.ext fun h=>fs.length≤100∧∃mA,h.Ns1 d mA∧(∀f,RelO (fs.lookup f) (mA f))∧PySem.Within mA (fs.map (·.1))
section
variable {P:Program} {w:World} {H:Hp} {h:Heap} {e C dx d:Addr}
theorem exU_ok {t:Addr} {sl:Array (Option Value)} (q:h.get? e=some ⟨.ref C,none,.fields #[.ref t,.none,.none,.none,.bool false,.none],sl⟩):ObjOk P w H h e (exU e C):=
 ⟨⟨t,sl,q⟩,⟨_,q⟩,fun _ _ ⟨t,sl,z⟩ k=>⟨t,sl,k _ z⟩⟩
theorem exF_ok {t:Addr} {sl:Array (Option Value)} (q:h.get? e=some ⟨.ref C,some dx,.fields #[.ref t,.none,.none,.none,.bool false,.none],sl⟩):ObjOk P w H h e (exF e C dx):=
 ⟨⟨t,sl,q⟩,⟨_,q⟩,fun _ _ ⟨t,sl,z⟩ k=>⟨t,sl,k _ z⟩⟩
theorem exD_ok {vs:Array Value} {sl:Array (Option Value)} (q:h.get? e=some ⟨.ref C,some dx,.fields vs,sl⟩):ObjOk P w H h e (exD e C dx):=
 ⟨⟨vs,sl,q⟩,⟨_,q⟩,fun _ _ ⟨t,sl,z⟩ k=>⟨t,sl,k _ z⟩⟩
theorem xdO_ok {fs:List (Str × V)} {mA:Str→Option Value} (z:fs.length≤100) (n:h.Ns1 d mA) (r:∀f,RelO (fs.lookup f) (mA f)) (wi:PySem.Within mA (fs.map (·.1))):ObjOk P w H h d (xdO d fs):=by
 obtain ⟨o,q⟩:∃o,h.get? d=some o:=by obtain ⟨o,_,_,q,_⟩:=n.ns;exact ⟨o,q⟩
 exact ⟨⟨z,mA,n,r,wi⟩,⟨o,q⟩,fun _ _ ⟨z,mA,n,r,wi⟩ k=>⟨z,mA,n.at k,r,wi⟩⟩
end
section
variable {X:Cx} {pins:List (Addr × Obj)} {σ:L2.St} {H:Hp} {s:Shared}
theorem Inv.put2 {h':Heap} {t':Nat} {e d:Addr} {oe od:HO} {φ:Heap→Prop} (I:Inv X pins σ H s) (he:H e=some (.ext φ)) (hd:s.heap.objs.size≤d) (k:∀b o,b≠e→s.heap.get? b=some o→h'.get? b=some o) (hee:∃o,h'.get? e=some o)
  (n1:ObjOk X.prog X.w (upd (upd H d od) e oe) h' e oe) (n2:ObjOk X.prog X.w (upd (upd H d od) e oe) h' d od):Inv X pins σ (upd (upd H d od) e oe) {s with heap:=h',toks:=t'}:=by
 have hdn:H d=none:=I.hok.fresh hd
 have hgd:∀o,s.heap.get? d≠some o:=fun o z=>Nat.lt_irrefl _ (Nat.lt_of_lt_of_le (Heap.lt_size z) hd)
 have ne1:∀b,H b=none→b≠e:=fun b n z=>by rw [z,he] at n;cases n
 have old:∀{b:Addr} {u:HO},H b=some u→b≠e→upd (upd H d od) e oe b=some u:=fun {b u} q n=>by rw [upd_ne n,upd_ne (ne_of_none q hdn)];exact q
 have nx:∀{b:Addr} {u:HO},H b=some u→(∀ψ,u≠.ext ψ)→b≠e:=fun {b u} q n z=>by subst z;rw [he] at q;exact n φ (Option.some.inj q).symm
 refine I.un ⟨fun b o q n _ _=>k b o (ne1 b n) q,fun b o q n _ _=>⟨o.slots,k b o (ne1 b n) q⟩,fun b o q n _=>?_,fun b o q _=>?_,fun b xs q=>old q (nx q (by intro ψ z;cases z)),fun b o u q=>old q (nx q (by intro ψ z;cases z)),fun b ps q=>⟨#[],by rw [old q (nx q (by intro ψ z;cases z))];simp⟩⟩ fun b u q=>?_
 ·rw [upd_ne (ne1 b n),upd_ne (show b≠d from fun z=>hgd o (by rw [←z];exact q))]
  exact n
 ·by_cases hb:b=e
  ·subst hb;exact hee
  ·exact ⟨o,k b o hb q⟩
 ·by_cases hb:b=e
  ·subst hb;rw [upd_same] at q;cases q;exact n1
  ·rw [upd_ne hb] at q
   by_cases hb2:b=d
   ·subst hb2;rw [upd_same] at q;cases q;exact n2
   ·rw [upd_ne hb2] at q
    refine (I.hok b u q).stay (fun c v hc r=>k c v ?_ r) (fun c r=>old r (nx r (by intro ψ z;cases z))) fun c xs r=>old r (nx r (by intro ψ z;cases z))
    rcases hc with rfl | hc
    ·exact hb
    ·exact nx hc (by intro ψ z;cases z)
theorem upd_id {H:Hp} {a:Addr} {o:HO} (h:H a=some o):upd H a o=H:=by
 funext b
 by_cases hb:b=a
 ·subst hb;rw [upd_same,h]
 ·rw [upd_ne hb]
end
structure XC (K:PySem.W.Frag) (mg:Str→Option Value) (y:Str) (C R:Addr):Prop where
 base:Exc K mg y R [.type "ValueError",.type "Exception",.type "BaseException",.type "object"] "ValueError.__new__"
 lk:∃dC cC sC dR cR sR,K.lookup C=some ⟨.type "type",dC,.cls cC,sC⟩∧K.lookup R=some ⟨.type "type",dR,.cls cR,sR⟩∧excICk cC cR sC C "ValueError.__new__"=true∧cC.hasDict=true
 sa:PySem.W.findIn K (.ref C) "__setattr__"=some (some (.builtin "object.__setattr__"))
 ob:PySem.W.subIn K (.ref C) (.type "object")=some true
 rd:PySem.W.readsIn K R (.type "type")=true
 fc:PySem.W.findCls K (.ref R) (.type "type") "__init__"=some (.val (.builtin "ValueError.__init__"))
 sg:PySem.W.specialIn K (.ref R) "__getattribute__"=some (some (.builtin "type.__getattribute__"))
 ec:ExcC K C
 hd:PySem.W.hasDictIn K C=true
theorem XC.obj {K:PySem.W.Frag} {mg:Str→Option Value} {y:Str} {C R:Addr} {h:Heap} (x:XC K mg y C R) (X:K.In h):
  ∃nm q N bs tl sn sub ab col dC k0 k1 k2 k3 k5,h.get? C=some (excClassObj nm q C N bs tl true sn sub ab col dC k0 k1 k2 k3 k5 "ValueError.__new__")∧OwnTail h [.type "ValueError",.type "Exception",.type "BaseException",.type "object"] tl:=by
 obtain ⟨dC,cC,sC,dR,cR,sR,lC,lR,ck,hd⟩:=x.lk
 obtain ⟨nm,q,N,bs,tl,sn,sub,ab,col,k0,k1,k2,k3,k5,hC,T⟩:=excI_obj X x.base lC lR ck
 rw [hd] at hC
 exact ⟨nm,q,N,bs,tl,sn,sub,ab,col,dC,k0,k1,k2,k3,k5,hC,T⟩
section
variable {X:Cx} {o e value:Expr} {es:List Expr} {f y:Str} {pos pos' apos np:Pos} {ta tv:TE} {t:TA} {R:Addr}
noncomputable def tBI (K:PySem.W.Frag) (mg:Str→Option Value) (y:Str) (R:Addr) (t:TA):TE:=fun σ H Q=>t σ H fun vs H1=>∃e C rest,vs=.ref e::rest∧H1 e=some (exU e C)∧XC K mg y C R∧rest.length≤sizeLine∧Q .non H1
theorem pe_binit {pl:Sem Bool} (hg:Gl X y) (hm:X.mg y=some (.ref R)) (rd:PySem.W.readsIn X.K R (.type "type")=true) (fc:PySem.W.findCls X.K (.ref R) (.type "type") "__init__"=some (.val (.builtin "ValueError.__init__"))) (sg:PySem.W.specialIn X.K (.ref R) "__getattribute__"=some (some (.builtin "type.__getattribute__")))
  (ha:PA X (e::es) t) (hdb:(y==("__debug__":Str))=false:=by decide) (hst:starEach (e::es) X.env=(false,eval e X.env)::starEach es X.env:=by rfl) (hpl:(backTo pos (starEach es X.env)).any (·.1)=false:=by rfl)
  (ht:eval (.Call (.Attribute (.Name y np) "__init__" apos) (e::es) [] pos) X.env=(do
   let ov ←eval (.Name y np) X.env
   standAt apos.atName
   let (f,first) ←holding [ov] (getMethod ov "__init__" pl)
   callWith pos f first (backTo pos (starEach (e::es) X.env)) (backToKw pos (keywordEach [] X.env))):=by rfl):
  PE X (.Call (.Attribute (.Name y np) "__init__" apos) (e::es) [] pos) (tBI X.K X.mg y R t):=by
 intro pins s σ H Q I h
 refine PySem.W.methodCall_KW (pl:=pl) (ld_glob I hg hm ?_ hdb) ht
 refine PySem.W.method_cls I.kIn sg (PySem.W.cls_value I.kIn rd fc (by decide+kernel) ?_)
 refine PyProof.Rows.callWith_builtin1 (thn (ha pos pins _ σ H _ (I.tok _) h) fun us s1 ⟨vs,H1,I1,r1,ex,C,rest,ev,hex,xc,hz,q⟩=>?_) hst hpl
 subst ev
 cases r1 with
 | cons ra rr=>
  cases ra
  obtain ⟨⟨t0,sl,he⟩,_,_⟩:=(show ObjOk X.prog X.w H1 s1.heap ex (exU ex C) from I1.hok ex _ hex)
  obtain ⟨nm,q',N,bs,tl,sn,sub,ab,col,dC,k0,k1,k2,k3,k5,hC,T⟩:=xc.obj I1.kIn
  refine wpAny_call (base_init PySem.F.excBase_ValueError T hC he (by rw [←rr.length];exact hz) fun h' t1 kk he'=>?_)
  have I2:=I1.write (t':=s1.toks) (x:=ex) (e:=ex) (o:=exU ex C) (by rw [hex];exact trivial) (.inl rfl) (fun b u hb q=>kk b u hb q) ⟨_,he'⟩ (exU_ok he')
  rw [upd_id hex] at I2
  exact ⟨.non,H1,I2,rfl,q⟩
noncomputable def sFldX (K:PySem.W.Frag) (mg:Str→Option Value) (y:Str) (R:Addr) (to tv:TE) (f:Str):TS:=fun D σ H=>tv σ H fun v H1=>to σ H1 fun x H2=>∃e C,x=.ref e∧XC K mg y C R∧PySem.W.findIn K (.ref C) f=some none∧
 ((H2 e=some (exU e C)∧∀dx,H2 dx=none→dx≠e→D.nx σ (upd (upd H2 dx (xdO dx [(f,v)])) e (exF e C dx)))∨
 ∃dx fs,H2 e=some (exF e C dx)∧H2 dx=some (xdO dx fs)∧fs.length < 100∧D.nx σ (upd H2 dx (xdO dx (putF f v fs))))
theorem ps_fldX (ha:PE X o ta) (hv:PE X value tv) (hs:swapsWith value (some (.Attribute o f pos')) pos.line X.env=pure false):PS X (.Assign [.Attribute o f pos'] value pos) (sFldX X.K X.mg y R ta tv f):=by
 intro pins s σ H D I h
 refine plainObj_wpAny_Assign_Attribute (thn (hv pins s σ H _ I h) fun u s1 ⟨v,H1,I1,rv,q⟩=>thn (ha pins s1 σ H1 _ I1 q) fun ov s2 ⟨x,H2,I2,rx,e,C,ex,xc,hn,q2⟩=>?_) hs
 subst ex
 obtain rfl:ov=Value.ref e:=rx
 obtain ⟨nm,q',N,bs,tl,sn,sub,ab,col,dC,k0,k1,k2,k3,k5,hC,T⟩:=xc.obj I2.kIn
 rcases q2 with ⟨he,q2⟩ | ⟨dx,fs,he,hdx,hz,q2⟩
 ·obtain ⟨⟨t0,sl,hge⟩,_,_⟩:=(show ObjOk X.prog X.w H2 s2.heap e (exU e C) from I2.hok e _ he)
  refine store_X I2.kIn PySem.F.store_ValueError T hC xc.sa hn xc.ob hge rfl fun h' tk' hx' hN' kk=>?_
  have nde:s2.heap.objs.size≠e:=Nat.ne_of_gt (Heap.lt_size hge)
  refine ⟨σ,_,Inv.put2 I2 he (Nat.le_refl _) kk ⟨_,hx'⟩ (exF_ok hx') (xdO_ok (fs:=[(f,v)]) (show 1≤100 by decide) hN' (fun g=>?_) ?_),q2 _ (I2.hok.fresh (Nat.le_refl _)) nde⟩
  ·by_cases hg:g=f
   ·subst hg
    have hb:(g==g)=true:=beq_iff_eq.mpr rfl
    simp only [List.lookup,hb,if_pos]
    exact rv
   ·have hb:(g==f)=false:=beq_eq_false_iff_ne.mpr hg
    simp only [List.lookup,hb,if_neg hg]
    exact trivial
  ·exact PySem.Within.cons f u PySem.Within.nil
 ·obtain ⟨⟨t0,sl,hge⟩,_,_⟩:=(show ObjOk X.prog X.w H2 s2.heap e (exF e C dx) from I2.hok e _ he)
  obtain ⟨⟨hz0,mA,hN,hrel,hwi⟩,⟨od,hod⟩,_⟩:=(show ObjOk X.prog X.w H2 s2.heap dx (xdO dx fs) from I2.hok dx _ hdx)
  refine store_X2 I2.kIn PySem.F.store_ValueError T hC xc.sa hn xc.ob hge rfl hN hwi (by rw [List.length_map];omega) fun h' tk' hN' sb=>?_
  refine ⟨σ,_,I2.write (x:=dx) (e:=dx) (o:=xdO dx (putF f v fs)) (by rw [hdx];exact trivial) (.inl rfl) (fun b z hb q=>(sb.2 b hb).trans q) (by obtain ⟨o',_,_,q,_⟩:=hN'.ns;exact ⟨o',q⟩) (xdO_ok ?_ hN' (fun g=>?_) ?_),q2⟩
  ·have:=length_putF f v fs;omega
  ·rw [lookup_putF]
   by_cases q:g=f
   ·rw [if_pos q,if_pos q];exact rv
   ·rw [if_neg q,if_neg q];exact hrel g
  ·intro g hg
   by_cases q:g=f
   ·rw [q];exact (keys_putF f v fs).1
   ·exact (keys_putF f v fs).2 g (hwi g fun z=>hg (by show (if g=f then some u else mA g)=none;rw [if_neg q];exact z))
noncomputable def tFldX (K:PySem.W.Frag) (to:TE) (f:Str):TE:=fun σ H Q=>to σ H fun x H1=>∃e C dx fs v,x=.ref e∧H1 e=some (exD e C dx)∧H1 dx=some (xdO dx fs)∧ExcC K C∧PySem.W.findIn K (.ref C) f=some none∧PySem.W.hasDictIn K C=true∧fs.lookup f=some v∧Q v H1
theorem pe_fldX (he:PE X e ta) (hb:attributeBase e f X.env (eval e X.env)=eval e X.env):PE X (.Attribute e f pos) (tFldX X.K ta f):=by
 intro pins s σ H Q I h
 refine attr_of hb (thn (he pins s σ H _ I h) fun u s1 ⟨x,H1,I1,rx,a,C,dx,fs,v,ex,ea,hdx,ec,hn,hd,l,q⟩=>?_)
 subst ex
 obtain rfl:u=Value.ref a:=rx
 obtain ⟨⟨vs,sl,hge⟩,_,_⟩:=(show ObjOk X.prog X.w H1 s1.heap a (exD a C dx) from I1.hok a _ ea)
 obtain ⟨⟨hz0,mA,hN,hrel,hwi⟩,_,_⟩:=(show ObjOk X.prog X.w H1 s1.heap dx (xdO dx fs) from I1.hok dx _ hdx)
 obtain ⟨v',hv',rv⟩:=RelO.some_of (v:=v) (o:=mA f) (by rw [←l];exact hrel f)
 exact read_X I1.kIn ec hn hd hge hN hv' (handed_of rv) ⟨v,H1,I1.tok _,rv,q⟩
end
section
variable {X:Cx} {k:Nat} {f C R:Addr} {fd:FuncData} {ps:List Str} {sp:Sp} {y:Str}
theorem run_excI {pins:List (Addr × Obj)} {σ:L2.St} {H:Hp} {s:Shared} {us:List Value} {vs:List V} {Rr:Addr→Addr→Hp→Prop} (xc:XC X.K X.mg y C R) (hi:PySem.W.findIn X.K (.ref C) "__init__"=some (some (.ref f))) (hf:PySem.W.isFn X.K (.ref f)=true)
  (F:FnOk X.prog X.w X.K X.mg X.base CX0 k f fd ps sp) (hr:Room (k+1) X.A) (hb:Binds X.K fd ps []) (I:Inv X pins σ H s) (r:Vals vs us) (hz:vs.length≤sizeLine)
  (h:∀e,H e=none→sp (.ref e::vs) (upd H e (exU e C)) (fun v H2=>v=.non∧∃dx,H2 e=some (exF e C dx)∧Rr e dx H2) E0):
  wpAny (model X.prog X.w) X.A (call (.ref C) us) (fun u s'=>∃e dx H2,u=.ref e∧s.heap.get? e=none∧Inv X pins σ H2 s'∧H2 e=some (exF e C dx)∧Rr e dx H2) X.xe s:=by
 obtain ⟨nm,q',N,bs,tl,sn,sub,ab,col,dC,k0,k1,k2,k3,k5,hC,T⟩:=xc.obj I.kIn
 refine call_excI PySem.F.excBase_ValueError T I.kIn hC hi (beq_iff_eq.mp hf) (by rw [←r.length];exact hz) fun h' e hle mk=>?_
 obtain ⟨t,he,htn,ht⟩:=mk.there
 have I2:Inv X pins σ (upd H e (exU e C)) {s with heap:=h'}:=I.laid (a:=e) (o:=exU e C) (t':=s.toks) mk.keeps hle (exU_ok he)
 have hq:=h e (I.hok.fresh hle)
 have r2:Vals (V.ref e::vs) (Value.ref e::us):=.cons rfl r
 have hl:(Value.ref e::us++[]).length=ps.length:=by
  have e1:=r2.length
  rw [F.len _ _ _ _ hq] at e1
  rw [List.append_nil]
  exact e1.symm
 have hb':=hb {s with heap:=h'} (Value.ref e::us) I2.kIn hl
 rw [List.append_nil] at hb'
 refine wpAny_call (codeAny_mono (F.run _ X.stack _ _ ⟨Value.ref e::us,[]⟩ (Value.ref e::us) _ _ E0 (hr.make C us []) (I2.env0.make C us []) hb' r2 hq) fun rr s' hq'=>?_)
 cases rr with
 | error x=>exact False.elim hq'
 | ok fl=>
  cases fl with
  | ret u=>
   obtain ⟨v,H',I3,rv,ev,dx,h3,h4⟩:=I2.after hq'
   subst ev
   exact ⟨rv,e,dx,H',rfl,mk.new,I3,h3,h4⟩
  | next=>exact False.elim hq'
  | brk=>exact False.elim hq'
  | cont=>exact False.elim hq'
end
section
variable {prog:Program} {w:World} {A:Around} {E:Value→Shared→Prop} {s:Shared} {env:Env} {K:PySem.W.Frag} {mg:Str→Option Value} {y:Str} {C R:Addr}
theorem raise_X {x:Sem Value} {Q:Flow→Shared→Prop} (xc:XC K mg y C R) (hh:A.handled=none)
  (h:wpAny (model prog w) A x (fun v s₁=>∃e dx t sl,v=.ref e∧K.In s₁.heap∧s₁.heap.get? e=some ⟨.ref C,some dx,.fields #[.ref t,.none,.none,.none,.bool false,.none],sl⟩∧E (.ref e) s₁) E s):
  wpAny (model prog w) A (raiseStmt env (some x) none) Q E s:=by
 unfold raiseStmt
 refine wpAny_bind (wpAny_mono h (fun v s₁ h₁=>?_) fun _ _ x=>x)
 obtain ⟨e,dx,t,sl,rfl,X,he,hE⟩:=h₁
 obtain ⟨nm,q',N,bs,tl,sn,sub,ab,col,dC,k0,k1,k2,k3,k5,hC,T⟩:=xc.obj X
 have hcB:(Value.ref C::tl).contains (.type "BaseException")=true:=by rw [List.contains_cons,T.hasType (b:=true) (by decide),Bool.or_true]
 obtain ⟨hp,g,d,tk,os⟩:=s₁
 repeat (first | with_reducible refine wpAny_loadPart_at he ?_ | with_reducible refine wpAny_loadPart_at hC ?_ | (with_reducible refine wpAny_isSubtype_exc hC ?_;rw [hcB]) | wp_step)
 exact wpAny_raiseNew_none hh hE
end
noncomputable def Link (h:Heap) (ea:Addr) (od:Option Addr):Prop:=∀dx,od=some dx→∃o,h.get? ea=some o∧o.dict=some dx
noncomputable def CXd (P:Program) (w:World):CXT:=fun fr H s E e s'=>∃(ea:Addr) (cls a0:Value) (H':Hp) (B:Heap) (od:Option Addr),e=.ref ea∧Thrown P w fr H s ea cls a0 H' B s'∧Link s'.heap ea od∧E cls od H'
noncomputable def del (H:Hp) (a:Addr):Hp:=fun b=>if b=a then none else H b
theorem del_same {H:Hp} {a:Addr}:del H a a=none:=by unfold del;rw [if_pos rfl]
theorem del_ne {H:Hp} {a b:Addr} (h:b≠a):del H a b=H b:=by unfold del;rw [if_neg h]
section
variable {P:Program} {w:World} {K:PySem.W.Frag} {mg:Str→Option Value} {base:Heap} {N:List Str} {qual:Str} {scope:Scope} {f:Addr} {cdv:Value} {A:Around} {outer:List Env} {s:Shared} {H:Hp} {E:XK}
noncomputable abbrev cxD (P:Program) (w:World) (K:PySem.W.Frag) (mg:Str→Option Value) (base:Heap) (N:List Str) (qual:Str) (scope:Scope) (f:Addr) (cdv:Value) (A:Around) (outer:List Env) (s:Shared) (H:Hp) (E:XK):Cx:=
 cxOf (CXd P w) P w K mg base N qual scope f cdv A outer s H E
theorem toE {pins:List (Addr × Obj)} {σ:L2.St} {H1:Hp} {s1:Shared} (I:Inv (cxD P w K mg base N qual scope f cdv A outer s H E) pins σ H1 s1):Inv (cxE P w K mg base N qual scope f cdv A outer s H E) pins σ H1 s1:=I.wish _
theorem made_leavesD {pins:List (Addr × Obj)} {σ:L2.St} {H1:Hp} {s1:Shared} {ea C dx:Addr} (I:Inv (cxD P w K mg base N qual scope f cdv A outer s H E) pins σ H1 s1)
  (hx:H1 ea=some (exF ea C dx)) (hold:s.heap.get? ea=none) (hE:E (.ref C) (some dx) (del H1 ea)):(cxD P w K mg base N qual scope f cdv A outer s H E).xe (.ref ea) s1:=by
 obtain ⟨⟨t,sl,hge⟩,_,_⟩:=(show ObjOk P w H1 s1.heap ea (exF ea C dx) from I.hok ea _ hx)
 obtain ⟨S,hS⟩:∃S,S=frs (cxD P w K mg base N qual scope f cdv A outer s H E).stack:=⟨_,rfl⟩
 have hin:∀env∈(cxD P w K mg base N qual scope f cdv A outer s H E).stack,∀b,env.frame=some b→b∈ea::S:=fun env he b hb=>by
  rw [hS]
  exact List.mem_cons_of_mem _ (List.mem_filterMap.mpr ⟨env,he,hb⟩)
 have hnt:∀b o,H1 b=some o→b∉S:=fun b o e z=>by rw [hS] at z;rw [I.stkFree b z] at e;cases e
 have inB:∀b o,s1.heap.get? b=some o→b≠ea→b∉S→(PySem.W.hideAll s1.heap (ea::S)).get? b=some o:=fun b o e n m=>PySem.W.hideAll_get _ e fun z=>by
  rcases List.mem_cons.mp z with z | z
  ·exact n z
  ·exact m z
 have oldne:∀b o,s.heap.get? b=some o→b≠ea:=fun b o e z=>by rw [z,hold] at e;cases e
 have stk:∀b o,s.heap.get? b=some o→b∉frs outer→b∉S:=fun b o e hb=>by rw [hS];exact stk_new (toE I) e hb
 have notx:∀{b:Addr} {u:HO},H1 b=some u→(∀ψ,u≠.ext ψ)→b≠ea:=fun {b u} q n z=>by subst z;rw [hx] at q;exact n _ (Option.some.inj q).symm
 have hen:(PySem.W.hideAll s1.heap (ea::S)).get? ea=none:=PySem.W.hideAll_none _ (.head _)
 refine wpAny_mono (any_calm calm_leaving (wpAny_leaving_firstW (base:=PySem.W.hideAll s1.heap (ea::S)) (a0:=.ref t) (Q:=fun _ s'=>∃h',s'={s1 with heap:=h'}∧Heap.LeftW (PySem.W.hideAll s1.heap (ea::S)) _ ea (.ref C) (.ref t) s1.heap h') (E:=fun _ _=>False)
  I.ok.frames (PySem.W.funFrames_hide I.stack hin) rfl hge (fun b o q=>PySem.W.of_hideAll _ q) hen rfl rfl rfl fun h' hL=>⟨h',rfl,hL⟩)) (fun _ s' ⟨⟨h',es,hL⟩,sd⟩=>?_) fun _ _ z=>z.1.elim
 subst es
 obtain ⟨k1,⟨_,_,k2⟩,k3,x4⟩:=hL
 have x1:Heap.FlyingW (PySem.W.hideAll s1.heap (ea::S)) outer ea (.ref C) (.ref t) h':=⟨k1,hen,k2,k3⟩
 refine ⟨ea,.ref C,.ref t,del H1 ea,_,some dx,rfl,⟨x1,I.os,I.bare,fun b ob e=>?_,⟨fun b o e n hb hx'=>?_,fun b o e n hb hx'=>?_,fun b o e n hx'=>?_,fun b o e hx'=>?_,fun b xs q=>?_,fun b o u q=>?_,fun b ps q=>?_⟩,fun b o e hb=>?_⟩,?_,hE⟩
 ·have hb:b≠ea:=fun z=>by rw [z,del_same] at e;cases e
  rw [del_ne hb] at e
  refine (I.hok b ob e).stay (fun c u hc q=>?_) (fun c r=>by rw [del_ne (notx r (by intro ψ z;cases z))];exact r) fun c xs r=>by rw [del_ne (notx r (by intro ψ z;cases z))];exact r
  rcases hc with rfl | hc
  ·exact inB c u q hb (hnt c _ e)
  ·exact inB c u q (notx hc (by intro ψ z;cases z)) (hnt c _ hc)
 ·exact x1.1 b o (inB b o (I.base.keep b o e n hb hx') (oldne b o e) (stk b o e hb))
 ·obtain ⟨sl',z⟩:=I.base.slot b o e n hb hx'
  obtain ⟨_,ob,e',nf⟩:=I.funs.mem hb
  rw [z] at e'
  cases e'
  obtain ⟨sl2,z'⟩:=x4 b _ z nf
  exact ⟨sl2,z'⟩
 ·rw [del_ne (oldne b o e)]
  exact I.base.free b o e n hx'
 ·obtain ⟨o',z⟩:=I.base.there b o e hx'
  by_cases hb:b∈frs outer
  ·obtain ⟨_,ob,e',nf⟩:=I.funs.mem hb
   obtain ⟨sl',z'⟩:=x4 b _ e' nf
   exact ⟨_,z'⟩
  ·exact ⟨o',x1.1 b o' (inB b o' z (oldne b o e) (stk b o e hb))⟩
 ·have r:=I.base.tups b xs q
  rw [del_ne (notx r (by intro ψ z;cases z))]
  exact r
 ·have r:=I.base.frzs b o u q
  rw [del_ne (notx r (by intro ψ z;cases z))]
  exact r
 ·obtain ⟨m,r⟩:=I.base.tbls b ps q
  exact ⟨m,by rw [del_ne (notx r (by intro ψ z;cases z))];exact r⟩
 ·obtain ⟨o',z⟩:=I.base.there b o e (by simp [cxD,cxOf])
  refine ⟨o',inB b o' z (oldne b o e) (stk b o e hb),fun n=>?_⟩
  have z2:=I.base.keep b o e n hb (by simp [cxD,cxOf])
  rw [z] at z2
  exact Option.some.inj z2
 ·intro dx' ed
  cases ed
  obtain ⟨ob,hob,_⟩:=x1.there
  exact ⟨ob,hob,sd.dict hge hob⟩
noncomputable def tRaiseI (C:Addr) (sp:Sp) (E:XK) (ta:TA):TS:=fun _ σ H=>ta σ H fun vs H1=>vs.length≤sizeLine∧∀e,H1 e=none→sp (.ref e::vs) (upd H1 e (exU e C)) (fun v H2=>v=.non∧∃dx,H2 e=some (exF e C dx)∧E (.ref C) (some dx) (del H2 e)) E0
theorem ps_raiseI {x y:Str} {C R fI:Addr} {k:Nat} {fd:FuncData} {ps:List Str} {sp:Sp} {np cpos pos:Pos} {e0:Expr} {es:List Expr} {ta:TA} (xc:XC K mg y C R) (hm:mg x=some (.ref C)) (hkp:PySem.W.keepIn K (.ref C)=true) (hi:PySem.W.findIn K (.ref C) "__init__"=some (some (.ref fI))) (hf:PySem.W.isFn K (.ref fI)=true)
  (F:FnOk P w K mg base CX0 k fI fd ps sp) (hr:Room (k+1) (cxD P w K mg base N qual scope f cdv A outer s H E).A) (hb:Binds K fd ps [])
  (hg:Gl (cxD P w K mg base N qual scope f cdv A outer s H E) x) (ha:PA (cxD P w K mg base N qual scope f cdv A outer s H E) (e0::es) ta) (hdb:(x==("__debug__":Str))=false:=by decide)
  (he:starEach (e0::es) (cxD P w K mg base N qual scope f cdv A outer s H E).env=(false,eval e0 (cxD P w K mg base N qual scope f cdv A outer s H E).env)::starEach es (cxD P w K mg base N qual scope f cdv A outer s H E).env:=by rfl)
  (hpl:(backTo cpos (starEach es (cxD P w K mg base N qual scope f cdv A outer s H E).env)).any (·.1)=false:=by rfl):
  PS (cxD P w K mg base N qual scope f cdv A outer s H E) (.Raise (some (.Call (.Name x np) (e0::es) [] cpos)) none pos) (tRaiseI C sp E ta):=by
 intro pins s1 σ H1 D I h
 rw [arm_exec_Raise]
 refine wpAny_bind (wpAny_standAt ?_)
 show wpAny _ _ (raiseStmt _ (some (do
  let v ←eval (.Call (.Name x np) (e0::es) [] cpos) (cxD P w K mg base N qual scope f cdv A outer s H E).env
  standAt pos
  pure v)) none) _ _ _
 refine raise_X xc (I.ok.hd rfl) (wpAny_bind (wpAny_Call_Name_kw (ld_glob I hg hm ?_ hdb)))
 refine PySem.W.callWith_K (h₀:=base) I.ok.mod.kin hkp (thn (ha cpos pins s1 σ H1 _ I h) fun us s2 ⟨vs,H2,I2,r,hz,q⟩=>⟨I2.kIn,?_⟩) he hpl
 refine thn (run_excI (X:=cxD P w K mg base N qual scope f cdv A outer s H E) (Rr:=fun e dx H2=>E (.ref C) (some dx) (del H2 e)) xc hi hf F hr hb I2 r hz q) fun u s3 ⟨e,dx,H3,eu,hnew,I3,h3,hE⟩=>?_
 subst eu
 obtain ⟨⟨t,sl,hge⟩,_,_⟩:=(show ObjOk P w H3 s3.heap e (exF e C dx) from I3.hok e _ h3)
 refine wpAny_bind (wpAny_standAt (wpAny_pure ⟨e,dx,t,sl,rfl,I3.kIn,hge,made_leavesD I3 h3 ?_ hE⟩))
 cases q0:s.heap.get? e with
 | none=>rfl
 | some o=>
  obtain ⟨o',z⟩:=I2.base.there e o q0 (by simp [cxD,cxOf])
  rw [hnew] at z
  cases z
theorem okD {x:Str} {st:Stmt} {fd:FuncData} {ps:List Str} {k:Nat} {sp:Sp} (F:Fun K x qual st f fd) (S:FnScope N ps (defScope st)) (len:∀vs H Q E,sp vs H Q E→vs.length=ps.length)
  (hbody:∀(cdv:Value) (A:Around) (outer:List Env) (s:Shared) (H:Hp) (vs:List V) (Q:VK) (E:XK),Room k (A.deeper (envOfC qual (defScope st) s.heap.objs.size f cdv))→sp vs H Q E→
   ∃t,PSs (cxD P w K mg base N qual (defScope st) f cdv A outer s H E) (defBody st) t∧t {nx:=fun _ H'=>Q .non H',rt:=Q} (start N vs) H):FnOk P w K mg base (CXd P w) (k+1) f fd ps sp:=by
 obtain ⟨oc,od,kV,doc,pm,an,cdv,ct,osl,rfl,lk,hcd⟩:=F.ex
 exact fn_of lk hcd S len fun A outer s H vs Q E hr hsp=>hbody cdv A outer s H vs Q E hr hsp
end
noncomputable def XPd (X:Cx) (pins:List (Addr × Obj)) (σ:L2.St) (E:XK) (e:Value) (s':Shared):Prop:=
 ∃(Hc:Hp) (sc:Shared) (ea:Addr) (cls a0:Value) (H':Hp) (B:Heap) (od:Option Addr),e=.ref ea∧Inv X pins σ Hc sc∧Thrown X.prog X.w X.stack Hc sc ea cls a0 H' B s'∧Link s'.heap ea od∧E cls od H'
noncomputable def PEd (X:Cx) (e:Expr) (t:TEx):Prop:=
 ∀(pins:List (Addr × Obj)) (s:Shared) (σ:L2.St) (H:Hp) (Q:VK) (E:XK),Inv X pins σ H s→t E σ H Q→wpAny (model X.prog X.w) X.A (eval e X.env) (EP X pins σ Q) (XPd X pins σ E) s
noncomputable def PSd (X:Cx) (st:Stmt) (t:TSx):Prop:=
 ∀(pins:List (Addr × Obj)) (s:Shared) (σ:L2.St) (H:Hp) (D:Ends) (E:L2.St→XK),Inv X pins σ H s→t D E σ H→wpAny (model X.prog X.w) X.A (exec st X.env) (SP X pins D) (fun e s'=>∃σ',XPd X pins σ' (E σ') e s') s
section
variable {X:Cx} {e o:Expr} {es:List Expr} {pos apos p:Pos} {k:Nat} {f C:Addr} {fd:FuncData} {ps:List Str} {sp:Sp} {ta:TE} {t:TA} {m x:Str}
theorem run_fnd {pins:List (Addr × Obj)} {σ:L2.St} {H:Hp} {s:Shared} {Q:VK} {E:XK} {us:List Value} {vs:List V} (F:FnOk X.prog X.w X.K X.mg X.base (CXd X.prog X.w) k f fd ps sp) (hr:Room k X.A) (hb:Binds X.K fd ps [])
  (I:Inv X pins σ H s) (r:Vals vs us) (h:sp vs H Q E):wpAny (model X.prog X.w) X.A (call (.ref f) us) (EP X pins σ Q) (XPd X pins σ E) s:=by
 have hl:(us++[]).length=ps.length:=by rw [List.append_nil,←r.length];exact F.len _ _ _ _ h
 have hb':=hb s us I.kIn hl
 rw [List.append_nil] at hb'
 refine wpAny_call (codeAny_mono (F.run X.A X.stack s H ⟨us,[]⟩ us vs Q E hr I.env0 hb' r h) fun r s' hq=>?_)
 cases r with
 | error e=>
  obtain ⟨ea,cls,a0,H',B,od,rfl,T,lk,hE⟩:=hq
  exact ⟨H,s,ea,cls,a0,H',B,od,rfl,I,T,lk,hE⟩
 | ok fl=>
  cases fl with
  | ret u=>exact I.after hq
  | next=>exact False.elim hq
  | brk=>exact False.elim hq
  | cont=>exact False.elim hq
end
section
variable {M:Model} {A:Around} {E:Value→Shared→Prop} {s:Shared} {B:Heap} {e L:Addr} {cls a0:Value} {Q:Unit→Shared→Prop} {env:Env} {outer l:List Env}
theorem looks_D (hfr:A.frames=some (env::outer)) (hf:env.frame=some L) (hfl:Heap.FlyingW B (env::outer) e cls a0 s.heap) (hQ:∀h',Heap.HeldW B (env::outer) e cls a0 L h'→s.heap.UpToSlots h'→SameD s.heap h'→Q () {s with heap:=h'}):wpAny M A (noteFrame (.ref e) env) Q E s:=
 wpAny_mono (any_calm calm_note (wpAny_looks_onW (Q:=fun _ s'=>∃h',s'={s with heap:=h'}∧Heap.HeldW B (env::outer) e cls a0 L h'∧s.heap.UpToSlots h') (E:=fun _ _=>False) hfr hf hfl fun h' a b=>⟨h',rfl,a,b⟩)) (fun _ s' ⟨⟨h',es,a,b⟩,sd⟩=>by subst es;exact hQ h' a b sd) fun _ _ z=>z.1.elim
theorem lands_D (hh:Heap.HeldW B l e cls a0 L s.heap) (hQ:∀h',Heap.FlyingW B l e cls a0 h'→s.heap.UpToSlots h'→SameD s.heap h'→Q () {s with heap:=h'}):wpAny M A (setFlight (.ref e) none) Q E s:=
 wpAny_mono (any_calm calm_setFlight (wpAny_landsW (Q:=fun _ s'=>∃h',s'={s with heap:=h'}∧Heap.FlyingW B l e cls a0 h'∧s.heap.UpToSlots h') (E:=fun _ _=>False) hh fun h' a b=>⟨h',rfl,a,b⟩)) (fun _ s' ⟨⟨h',es,a,b⟩,sd⟩=>by subst es;exact hQ h' a b sd) fun _ _ z=>z.1.elim
theorem again_D (hh:Heap.FlyingW B l e cls a0 s.heap) (hQ:∀h',Heap.FlyingW B l e cls a0 h'→s.heap.UpToSlots h'→SameD s.heap h'→Q () {s with heap:=h'}):wpAny M A (setFlight (.ref e) none) Q E s:=
 wpAny_mono (any_calm calm_setFlight (lands_againW (Q:=fun _ s'=>∃h',s'={s with heap:=h'}∧Heap.FlyingW B l e cls a0 h'∧s.heap.UpToSlots h') (E:=fun _ _=>False) hh fun h' a b=>⟨h',rfl,a,b⟩)) (fun _ s' ⟨⟨h',es,a,b⟩,sd⟩=>by subst es;exact hQ h' a b sd) fun _ _ z=>z.1.elim
end
noncomputable def tTryD (K:PySem.W.Frag) (tb:TSx) (i:Nat) (R:Addr) (ts:TS):TS:=fun D σ H=>tb D (fun σ' cls od H'=>∃C dx,cls=.ref C∧od=some dx∧excSub K C R=true∧∀ea,H' ea=none→
 ts {nx:=fun σ2 H2=>D.nx (σ2.set i none) H2,rt:=D.rt,bk:=fun σ2 H2=>D.bk (σ2.set i none) H2,ct:=fun σ2 H2=>D.ct (σ2.set i none) H2} (σ'.set i (some (.ref ea))) (upd H' ea (exD ea C dx))) σ H
theorem ps_tryD {X:Cx} {st b0:Stmt} {suite:List Stmt} {x n:Str} {np hpos pos:Pos} {tb:TSx} {ts:TS} {i:Nat} {R:Addr} (hstk:X.stack=X.env::X.outer) (hfrm:X.env.frame=some X.env.locals)
  (hb:PSd X st tb) (hN:X.N.Nodup) (hi:X.N[i]?=some n) (hl:X.env.scope.names.lookup n=some .local) (hg:Gl X x) (hm:X.mg x=some (.ref R)) (hR:excSub X.K R R=true) (hsuite:∀ea,PSs (inSuite X ea) (b0::suite) ts)
  (hdb:(x==("__debug__":Str))=false:=by decide):PS X (.Try [st] [.ExceptHandler (some (.Name x np)) (some n) (b0::suite) hpos] [] [] pos) (tTryD X.K tb i R ts):=by
 intro pins s σ H D I h
 refine wpAny_Try_except (wpAny_execs_cons (wpAny_mono (hb pins s σ H D _ I h) (fun f s1 q=>?_) fun e s1 q=>?_))
 ·cases f with
  | next=>exact wpAny_execs_nil (wpAny_execs_nil q)
  | ret v=>exact q
  | brk=>exact q
  | cont=>exact q
 ·obtain ⟨σ1,Hc,sc,ea,cls,a0,H',B,od,rfl,Ic,T,lk,C,dx,rfl,rfl,hsub,k⟩:=q
  obtain ⟨o0,ho0,hd0⟩:=lk dx rfl
  have hfr:X.A.frames=some (X.env::X.outer):=by rw [←hstk];exact I.ok.frames
  have fl1:=T.fl
  rw [hstk] at fl1
  refine looks_D hfr hfrm fl1 fun h4 held4 up4 sd4=>lands_D held4 fun h5 fl5 up5 sd5=>?_
  have fl5':=fl5
  rw [←hstk] at fl5'
  have T5:=T.move fl5' (up4.trans up5)
  have I5:Inv X pins σ1 H' {s1 with heap:=h5}:=Ic.call' (s':={s1 with heap:=h5}) (ch:=[]) T5.os T5.un T5.hok T5.bare (fun b z=>absurd z (by simp))
  obtain ⟨ob,hob,hobc⟩:=fl5.there
  refine wpAny_handleBy_cons (codeAny_handlers_test (ld_glob (X:=inSuite X ea) (L3.Inv.suite I5 ea) hg hm (exc_hit I5.kIn hsub hR hob hobc ?_) hdb)) (by intro q;cases q)
  refine codeAny_handlers_suite_as (again_D fl5 fun h6 fl6 up6 sd6=>?_)
  have fl6':=fl6
  rw [←hstk] at fl6'
  have T6:=T5.move fl6' up6
  obtain ⟨o6,v6,ho6,hc6,hf6,_⟩:=fl6.first
  have hd6:o6.dict=some dx:=(((sd4.trans sd5).trans sd6).dict ho0 ho6).trans hd0
  have hl6:h6.get? ea=some ⟨.ref C,some dx,.fields v6,o6.slots⟩:=by
   rw [ho6]
   obtain ⟨c,d,dt,sl⟩:=o6
   dsimp only at hc6 hf6 hd6
   rw [hc6,hf6,hd6]
  have old:∀b o,sc.heap.get? b=some o→b≠ea:=fun b o e=>T.notOld e
  have tn:=T.new
  have I6:Inv X pins σ1 (upd H' ea (exD ea C dx)) {s1 with heap:=h6}:=by
   refine Ic.call' (s':={s1 with heap:=h6}) (ch:=[]) T6.os ⟨T6.un.keep,T6.un.slot,fun b o e n' hx=>by rw [upd_ne (old b o e)];exact T6.un.free b o e n' hx,T6.un.there,fun b xs e=>?_,fun b o u e=>?_,fun b ps e=>?_⟩ ?_ T6.bare (fun b z=>absurd z (by simp))
   ·have:=T6.un.tups b xs e
    rw [upd_ne (ne_of_none this tn)]
    exact this
   ·have:=T6.un.frzs b o u e
    rw [upd_ne (ne_of_none this tn)]
    exact this
   ·obtain ⟨m,this⟩:=T6.un.tbls b ps e
    exact ⟨m,by rw [upd_ne (ne_of_none this tn)];exact this⟩
   ·intro b u e
    by_cases hb':b=ea
    ·subst hb'
     rw [upd_same] at e
     cases e
     exact exD_ok hl6
    ·rw [upd_ne hb'] at e
     exact (T6.hok b u e).stay (fun c v _ q=>q) (fun c q=>by rw [upd_ne (ne_of_none q tn)];exact q) fun c xs q=>by rw [upd_ne (ne_of_none q tn)];exact q
  refine store_ok (X:=inSuite X ea) (L3.Inv.suite I6 ea) hN hi (.inl hl) (v:=.ref ea) rfl (fun s7 I7=>?_) (.inr hl)
  have hp:(X.env.scope.kind==.class || (X.env.scope.kind==.module && X.env.locals !=X.env.globals))=false:=by rw [I.ok.kind];rfl
  have gone:∀{σ8:L2.St} {H8:Hp} {s8:Shared} {Q':Shared→Prop},Inv (inSuite X ea) pins σ8 H8 s8→(∀s9,Inv X pins (σ8.set i none) H8 s9→Q' s9)→
    wpAny (model X.prog X.w) X.A (do bindName X.env n .none;unbindBehindTheSuite X.env n hpos) (fun _ s9=>Q' s9) X.xe s8:=fun {σ8 H8 s8 Q'} I8 hq=>by
   have I8':Inv X pins σ8 H8 s8:=Inv.unsuite I.ok.hd I8
   obtain ⟨m,hn,_⟩:=id I8'.loc
   refine wpAny_nameGoes_keeps hl hn hp fun h9 v hn9 sb9=>hq _ (Inv.forget I8' hN hi sb9 fun m' hm'=>?_)
   have em:m'=m:=by
    obtain ⟨o,es,ep,e1,e2,_,e3⟩:=hn
    obtain ⟨o',es',ep',e1',e2',_,e3'⟩:=hm'
    rw [e1] at e1'
    cases e1'
    rw [e2] at e2'
    cases e2'
    funext y
    rw [←e3 y,←e3' y]
   subst em
   exact ⟨v,hn9⟩
  refine wpAny_mono (hsuite ea pins s7 _ _ _ I7 (k ea tn)) (fun fl8 s8 q8=>?_) fun _ _ z=>False.elim z
  cases fl8 with
  | next=>obtain ⟨σ8,H8,I8,q⟩:=q8;exact gone I8 fun s9 I9=>⟨_,H8,I9,q⟩
  | brk=>obtain ⟨σ8,H8,I8,q⟩:=q8;exact gone I8 fun s9 I9=>⟨_,H8,I9,q⟩
  | cont=>obtain ⟨σ8,H8,I8,q⟩:=q8;exact gone I8 fun s9 I9=>⟨_,H8,I9,q⟩
  | ret u=>obtain ⟨v8,σ8,H8,I8,r8,q⟩:=q8;exact gone I8 fun s9 I9=>⟨v8,_,H8,I9,r8,q⟩
section
variable {X:Cx}
theorem call_isiD:CallR X (.builtin "isinstance") (fun xs H Q=>∃(ea C dx:Addr) (b:Bool),H ea=some (exD ea C dx)∧ExcC X.K C∧((∃R,xs=[.ref ea,.ref R]∧PySem.W.kitOne X.K (.ref C) (.ref R)=some b)∨∃T,xs=[.ref ea,.ty T]∧PySem.W.kitOne X.K (.ref C) (.type T)=some b)∧Q (.bl b) H):=by
 intro pins s σ H xs us Q I r h
 obtain ⟨ea,C,dx,b,hea,c,hor,q⟩:=h
 obtain ⟨⟨vs,sl,hg⟩,_,_⟩:=(show ObjOk X.prog X.w H s.heap ea (exD ea C dx) from I.hok ea _ hea)
 have ty:TyAt s.heap ea C:=⟨_,hg,rfl⟩
 rcases hor with ⟨R,rfl,ka⟩ | ⟨T,rfl,ka⟩
 ·obtain ⟨u,w',rfl,ru,rw'⟩:=vals2 r
  cases ru
  cases rw'
  exact PySem.W.kia_one (kitx_exc c) I.kIn ty ka (fun z=>nomatch z) fun tk=>⟨.bl b,H,I.tok tk,rfl,q⟩
 ·obtain ⟨u,w',rfl,ru,rw'⟩:=vals2 r
  cases ru
  cases rw'
  exact PySem.W.kia_one (kitx_exc c) I.kIn ty ka (fun z=>nomatch z) fun tk=>⟨.bl b,H,I.tok tk,rfl,q⟩
end
theorem for_enum {K:PySem.W.Frag} {a:Addr} {xs:List V} {g:TG} {tb:TS} {D:Ends} {σ:L2.St} {H:Hp} (Pv:Nat→L2.St→Hp→Prop) (h0:Pv 0 σ H) (hl:∀i σ H,Pv i σ H→SqL K H a xs)
  (hs:∀i x σ H p,xs[i]?=some x→Pv i σ H→H p=none→g (.ref p) σ (upd H p (.tup [.int i,x])) fun σ2 H2=>tb {D with nx:=Pv (i+1),ct:=Pv (i+1),bk:=D.nx} σ2 H2) (hd:∀σ H,Pv xs.length σ H→D.nx σ H):
  ∃W:Nat→Nat→L2.St→Hp→Prop,(∃m,W 0 m σ H)∧∀i m σ H,W i m σ H→
   ((Ite K a).stop i H∧D.nx σ H)∨((Ite K a).go i H∧∃N:L2.St→Hp→Prop,(∀σ' H',N σ' H'→∃m',m' < m∧W (i+1) m' σ' H')∧∀x H',(Ite K a).yld i H x H'→g x σ H' fun σ2 H2=>tb {D with nx:=N,ct:=N,bk:=D.nx} σ2 H2):=by
 refine ⟨fun i m σ H=>m=xs.length - i∧i≤xs.length∧Pv i σ H,⟨xs.length,by simp,Nat.zero_le _,h0⟩,?_⟩
 rintro i m σ H ⟨rfl,hi,p⟩
 have q:=hl i σ H p
 by_cases hlt:i < xs.length
 ·refine .inr ⟨⟨xs,xs[i],q,by simp [hlt]⟩,Pv (i+1),fun σ' H' p'=>⟨xs.length - (i+1),by omega,rfl,hlt,p'⟩,fun v H' y=>?_⟩
  obtain ⟨r,x,hr,rfl,hx,rfl⟩:=y
  exact hs i x σ H r (hx xs q) p hr
 ·have e:i=xs.length:=by omega
  subst e
  exact .inl ⟨⟨xs,q,Nat.le_refl _⟩,hd σ H p⟩
end L3
namespace K1
open PySem L2 L3 M1
noncomputable def spHousesN:Sp:=fun vs H Q _=>∃(c:Int) (m:Nat),vs=[.int c,.int m]∧m≤12∧∀(p:Addr) (H':Hp),H p=none→Same H H'→H' p=some (.lst (txs (housesN c m)))→Q (.ref p) H'
theorem housesN_good {c:Int} {m:Nat} (h:m≤12):Good (housesN c m):=⟨fun x hx=>by
 obtain ⟨k,_,rfl⟩:=List.mem_map.mp hx
 exact hnm_nm c k,housesN_nd h,by rw [housesN_len];exact h⟩
noncomputable def hplV (c:Int) (k j:Nat):Int:=c / 64+5 * (0+(j:Int)) * (0+(j:Int))+2 * (0+(k:Int)) * (if decide (V.int (0+(j:Int))=V.int (c / 8 % (1+c % 8)))=true then 1 else 0)
theorem hch_V (c:Int) (k j:Nat):97+(hplV c k j % 26).toNat=hch c k j:=by
 unfold hplV hch
 rw [hpl_int c]
 by_cases h:j=hpl c
 ·subst h
  rw [if_pos rfl,if_pos (decide_eq_true (by rw [Int.zero_add])),Int.zero_add,Int.zero_add]
 ·rw [if_neg h,if_neg (by rw [decide_eq_false (fun z=>h (by have:=V.int.inj z;omega))];exact Bool.false_ne_true),Int.zero_add,Int.zero_add]
theorem range_map_succ {α:Type} (f:Nat→α) (n:Nat):(List.range (n+1)).map f=(List.range n).map f++[f n]:=by rw [List.range_succ,List.map_append];rfl
section
variable {P:Program} {w:World} {K:PySem.W.Frag} {mg:Str→Option Value} {base:Heap}
noncomputable abbrev sAt:Stmt:=top 44
theorem scAt:FnScope ["_law_script","_law_k"] ["_law_script","_law_k"] (defScope sAt):=⟨rfl,rfl,rfl,by decide+kernel,rfl,by decide+kernel,by decide+kernel⟩
theorem ok_at {f:Addr} {fd:FuncData} (F:Fun K "_law_cell_at" "_law_cell_at" sAt f fd) (len:mg "len"=none):FnOk P w K mg base CX0 1 f fd ["_law_script","_law_k"] (spAt K):=by
 refine F.ok scAt (fun vs H Q E h=>?_) (fun cdv A outer s H vs Q E hr h=>?_)
 ·obtain ⟨a,ns,k,rfl,_⟩:=h
  rfl
 ·obtain ⟨a,ns,k,rfl,hS,h0,q⟩:=h
  refine ⟨_,pss_cons (ps_if (pt_cmpR op_lt (pv 1) (pe_callB call_len_seq (by rfl) len PySem.boot_len (pa_cons (pv 0) pa_nil)) (nomark _)) (pss_one (ps_ret (pe_ix ix_list (pv 0) (pv 1) (fun _ _=>rfl)))) pss_nil) (pss_one (ps_ret pe_int)),?_⟩
  refine ⟨_,rfl,_,rfl,a,_,rfl,.inl hS,_,_,rfl,rfl,_,rfl,?_⟩
  refine ite2 (fun h=>?_) (fun h=>?_)
  ·have h1:=of_decide_eq_true h
   exact ⟨_,rfl,_,rfl,a,_,k,_,rfl,rfl,hS,atI_int h0 h1,q⟩
  ·have h1:¬k < ((ns.map V.int).length:Int):=fun z=>h (decide_eq_true z)
   rw [List.length_map] at h1
   have e:ns.getD k.toNat 0=0:=by
    rw [List.getD,List.getElem?_eq_none (by omega)]
    rfl
   rw [e] at q
   exact q
noncomputable abbrev sHousesN:Stmt:=top 45
noncomputable abbrev nHousesN:List Str:=["_law_cell","_law_many","_law_letters","_law_size","_law_at","_law_names","_law_k","_law_name","_law_j","_law_place"]
theorem scHousesN:FnScope nHousesN ["_law_cell","_law_many"] (defScope sHousesN):=⟨rfl,rfl,rfl,by decide+kernel,rfl,by decide+kernel,by decide+kernel⟩
theorem ok_housesN {f:Addr} {fd:FuncData} (F:Fun K "_law_houses" "_law_houses" sHousesN f fd) (B:Blt mg):FnOk P w K mg base CX0 1 f fd ["_law_cell","_law_many"] spHousesN:=by
 refine F.ok scHousesN (fun vs H Q E h=>?_) (fun cdv A outer s H vs Q E hr h=>?_)
 ·obtain ⟨c,m,rfl,_⟩:=h
  rfl
 ·obtain ⟨c,m,rfl,hm,q⟩:=h
  refine ⟨_,(pss_cons (ps_set (i:=2) scHousesN.nd rfl (Or.inl rfl) pe_str)
   (pss_cons (ps_set (i:=3) scHousesN.nd rfl (Or.inl rfl) (pe_op op_add pe_int (pe_op op_mod (pv 0) pe_int)))
   (pss_cons (ps_set (i:=4) scHousesN.nd rfl (Or.inl rfl) (pe_op op_mod (pe_op op_fdiv (pv 0) pe_int) (pv 3)))
   (pss_cons (ps_set (i:=5) scHousesN.nd rfl (Or.inl rfl) (pe_lst pa_nil))
   (pss_cons (ps_for PassesOwn.never rfl (pi_range1 rfl B.range (pa_cons (pv 1) pa_nil)) (pg_name (i:=6) scHousesN.nd rfl (Or.inl rfl))
    (pss_cons (ps_set (i:=7) scHousesN.nd rfl (Or.inl rfl) pe_str)
   (pss_cons (ps_for PassesOwn.never rfl (pi_range1 rfl B.range (pa_cons (pv 3) pa_nil)) (pg_name (i:=8) scHousesN.nd rfl (Or.inl rfl))
    (pss_cons (ps_set (i:=9) scHousesN.nd rfl (Or.inl rfl) (pe_op op_add (pe_op op_add (pe_op op_fdiv (pv 0) pe_int) (pe_op op_mul (pe_op op_mul pe_int (pv 8)) (pv 8))) (pe_op op_mul (pe_op op_mul pe_int (pv 6)) (pe_callTy call_int1 (by rfl) B.int bt_int (pa_cons (pe_cmpR op_eq (pv 8) (pv 4) (nomark _)) pa_nil)))))
   (pss_one (ps_set (i:=7) scHousesN.nd rfl (Or.inl rfl) (pe_op op_add_str (pv 7) (pe_ix ix_str (pv 2) (pe_op op_mod (pv 9) pe_int) (fun _ _=>rfl)))))))
   (pss_one (ps_expr (pe_bm PySem.F.plainAttrs_list PySem.F.slot_list_append PySem.F.type_list_append mt_append (pv 5) (pa_cons (pv 7) pa_nil)))))))
   (pss_one (ps_ret (pv 5)))))))),?_⟩
  have z1:=hsz_ok c
  have z2:=hsz_int c
  refine ⟨_,rfl,_,_,rfl,rfl,(by show (0:Int) < 8;decide),_,_,rfl,rfl,?_⟩
  refine ⟨_,rfl,_,_,rfl,rfl,⟨by decide,by decide⟩,_,rfl,_,_,rfl,rfl,(by show (0:Int) < 1+c % 8;omega),?_⟩
  refine ⟨Nat.zero_le _,fun p np=>⟨_,rfl,_,rfl,(by omega),(by omega),?_⟩⟩
  refine for_range (lo:=0) (n:=m) (fun k σ H2=>H2=upd H p (.lst (txs (housesN c k)))∧∃a1 a2 a3 a4,σ=[some (.int c),some (.int m),some (.str (Str.ofString "abcdefghijklmnopqrstuvwxyz")),some (.int (1+c % 8)),some (.int (c / 8 % (1+c % 8))),some (.ref p),a1,a2,a3,a4]) ⟨rfl,none,none,none,none,rfl⟩ ?_ ?_
  ·rintro k σ H2 hk ⟨rfl,a1,a2,a3,a4,rfl⟩
   refine ⟨_,rfl,_,rfl,(by omega),(by omega),?_⟩
   refine for_range (lo:=0) (n:=hsz c) (fun j σ H3=>H3=upd H p (.lst (txs (housesN c k)))∧∃b1 b2,σ=[some (.int c),some (.int m),some (.str (Str.ofString "abcdefghijklmnopqrstuvwxyz")),some (.int (1+c % 8)),some (.int (c / 8 % (1+c % 8))),some (.ref p),some (.int (0+(k:Int))),some (.str (S ((List.range j).map (hch c k)))),b1,b2]) ⟨rfl,a3,a4,rfl⟩ ?_ ?_
   ·rintro j σ H3 hj ⟨rfl,b1,b2,rfl⟩
    refine ⟨_,rfl,_,_,rfl,rfl,⟨by decide,by decide⟩,_,rfl,_,_,rfl,rfl,.inl ⟨by decide,by decide⟩,_,rfl,_,_,rfl,rfl,.inr ⟨by show -(2 ^ 64) < 0+(j:Int);omega,by show 0+(j:Int) < 2 ^ 64;omega⟩,_,_,rfl,rfl,_,rfl,_,_,rfl,rfl,.inl ⟨by decide,by decide⟩,_,rfl,_,rfl,rfl,.inr ⟨_,rfl,_,_,rfl,rfl,.inl ⟨by show -(2 ^ 64) < 2 * (0+(k:Int));omega,by show 2 * (0+(k:Int)) < 2 ^ 64;omega⟩,_,_,rfl,rfl,?_⟩⟩
    have k1:0≤hplV c k j % 26:=Int.emod_nonneg _ (by decide)
    have k2:hplV c k j % 26 < 26:=Int.emod_lt_of_pos _ (by decide)
    have l1:(⟨#[97+(hplV c k j % 26).toNat]⟩:Str).length=1:=rfl
    refine ⟨_,rfl,_,rfl,_,rfl,_,_,rfl,rfl,(by show (0:Int) < 26;decide),_,_,_,rfl,rfl,(by decide+kernel),alpha_at k1 k2,_,_,rfl,rfl,?_,rfl,some (.int (0+(j:Int))),some (.int (hplV c k j)),?_⟩
    ·rw [S_len,List.length_map,List.length_range]
     show j+1≤sizeLine
     exact Nat.le_of_lt (small1000 (by omega))
    ·rw [range_map_succ,←S_app,←hch_V]
     rfl
   ·rintro σ H3 ⟨rfl,b1,b2,rfl⟩
    refine ⟨_,rfl,.inl ⟨rfl,_,SqL.of upd_same⟩,_,rfl,p,_,_,rfl,rfl,upd_same,small1000 (by rw [txs_len,housesN_len];omega),?_,_,_,_,_,rfl⟩
    rw [upd_upd]
    unfold housesN
    rw [range_map_succ]
    unfold txs
    rw [List.map_append]
    rfl
  ·rintro σ H2 ⟨rfl,a1,a2,a3,a4,rfl⟩
   exact ⟨_,rfl,q p _ np (upd_free np) upd_same⟩
end
open PySem L2 L3 M1
section
variable {P:Program} {w:World} {K:PySem.W.Frag} {mg:Str→Option Value} {base:Heap}
noncomputable abbrev sWhole:Stmt:=top 8
noncomputable abbrev sWithin:Stmt:=top 9
noncomputable abbrev sTupOf:Stmt:=top 10
noncomputable abbrev sUnlike:Stmt:=top 11
noncomputable abbrev sName:Stmt:=top 30
noncomputable abbrev sAreH:Stmt:=top 31
noncomputable abbrev sRoad:Stmt:=top 32
noncomputable abbrev sAreR:Stmt:=top 33
theorem scWhole:FnScope ["thing"] ["thing"] (defScope sWhole):=⟨rfl,rfl,rfl,by decide+kernel,rfl,by decide+kernel,by decide+kernel⟩
theorem ok_whole {f:Addr} {fd:FuncData} (F:Fun K "is_whole" "is_whole" sWhole f fd) (B:Blt mg) (KT:Kit K):FnOk P w K mg base CX0 1 f fd ["thing"] spWhole:=by
 refine F.ok scWhole (fun vs H Q E h=>?_) (fun cdv A outer s H vs Q E hr h=>?_)
 ·obtain ⟨i,rfl,_⟩:=h
  rfl
 ·obtain ⟨i,rfl,q⟩:=h
  refine ⟨_,(pss_one (ps_ret (pe_and (pe_callB call_isi (by rfl) B.isinstance bt_isinstance (pa_cons (pv 0) (pa_cons (pe_bty (by rfl) B.int bt_int) pa_nil))) (pe_one (pe_not (pe_callB call_isi (by rfl) B.isinstance bt_isinstance (pa_cons (pv 0) (pa_cons (pe_bty (by rfl) B.bool bt_bool) pa_nil)))))))),?_⟩
  refine ⟨_,rfl,_,_,_,_,_,rfl,⟨rfl,.int _,kit_eq _ _⟩,_,rfl,iteT ?_⟩
  exact ⟨_,rfl,_,_,_,_,_,rfl,⟨rfl,.int _,KT.ib⟩,_,rfl,q⟩
theorem scWithin:FnScope ["thing","least","greatest"] ["thing","least","greatest"] (defScope sWithin):=⟨rfl,rfl,rfl,by decide+kernel,rfl,by decide+kernel,by decide+kernel⟩
theorem ok_within {f fW:Addr} {fd fdW:FuncData} (F:Fun K "is_whole_within" "is_whole_within" sWithin f fd) (D_is_whole:Dn K mg "is_whole" sWhole ["thing"] fW fdW)
  (G_is_whole:FnOk P w K mg base CX0 1 fW fdW ["thing"] spWhole):FnOk P w K mg base CX0 2 f fd ["thing","least","greatest"] spWithin:=by
 refine F.ok scWithin (fun vs H Q E h=>?_) (fun cdv A outer s H vs Q E hr h=>?_)
 ·obtain ⟨i,a,b,rfl,_⟩:=h
  rfl
 ·obtain ⟨i,a,b,rfl,h1,h2,q⟩:=h
  refine ⟨_,(pss_one (ps_ret (pe_and (pe_call G_is_whole (hr.mono (by decide)) (by rfl) D_is_whole.at_ D_is_whole.fn.kp D_is_whole.bd .nil pass0 (pa_cons (pv 0) pa_nil)) (pe_one (pe_chain op_le op_le (pv 1) (pv 0) (pv 2)))))),?_⟩
  refine ⟨_,rfl,_,rfl,_,rfl,iteT ?_⟩
  exact ⟨_,rfl,_,rfl,_,_,rfl,rfl,_,rfl,iteB (decide_eq_true h1) ⟨_,rfl,_,_,rfl,rfl,bl_of (decide_eq_true h2) q⟩⟩
theorem scTupOf:FnScope ["thing","length"] ["thing","length"] (defScope sTupOf):=⟨rfl,rfl,rfl,by decide+kernel,rfl,by decide+kernel,by decide+kernel⟩
theorem ok_tupOf {f:Addr} {fd:FuncData} (F:Fun K "is_tuple_of" "is_tuple_of" sTupOf f fd) (B:Blt mg):FnOk P w K mg base CX0 1 f fd ["thing","length"] spTupOf:=by
 refine F.ok scTupOf (fun vs H Q E h=>?_) (fun cdv A outer s H vs Q E hr h=>?_)
 ·obtain ⟨r,xs,n,rfl,_⟩:=h
  rfl
 ·obtain ⟨r,xs,n,rfl,h1,h2,q⟩:=h
  refine ⟨_,(pss_one (ps_ret (pe_and (pe_callB call_isi (by rfl) B.isinstance bt_isinstance (pa_cons (pv 0) (pa_cons (pe_bty (by rfl) B.tuple bt_tuple) pa_nil))) (pe_one (pe_cmpR op_eq (pe_callB call_len_seq (by rfl) B.len bt_len (pa_cons (pv 0) pa_nil)) (pv 1) (nomark _)))))),?_⟩
  refine ⟨_,rfl,_,_,_,_,_,rfl,⟨rfl,.tup h1,kit_eq _ _⟩,_,rfl,iteT ?_⟩
  exact ⟨_,rfl,r,_,rfl,.inr (SqT.of h1),_,rfl,rfl,bl_of (decide_eq_true (congrArg V.int h2)) q⟩
theorem scUnlike:FnScope ["houses","one","other"] ["houses","one","other"] (defScope sUnlike):=⟨rfl,rfl,rfl,by decide+kernel,rfl,by decide+kernel,by decide+kernel⟩
theorem ok_unlike {f:Addr} {fd:FuncData} (F:Fun K "are_unlike_houses" "are_unlike_houses" sUnlike f fd):FnOk P w K mg base CX0 1 f fd ["houses","one","other"] (spUnlike K):=by
 refine F.ok scUnlike (fun vs H Q E h=>?_) (fun cdv A outer s H vs Q E hr h=>?_)
 ·obtain ⟨a,ys,x,y,rfl,_⟩:=h
  rfl
 ·obtain ⟨a,ys,x,y,rfl,hS,hx,hy,ne,q⟩:=h
  refine ⟨_,(pss_one (ps_ret (pe_and (pe_cmpR op_in_seq (pv 1) (pv 0) (by rfl)) (pe_and (pe_cmpR op_in_seq (pv 2) (pv 0) (by rfl)) (pe_one (pe_cmpR op_ne (pv 1) (pv 2) (nomark _))))))),?_⟩
  refine ⟨_,rfl,_,rfl,a,_,rfl,.inl hS,rfl,flat_strs ys,_,rfl,iteB (in_strs hx) ?_⟩
  refine ⟨_,rfl,_,rfl,a,_,rfl,.inl hS,rfl,flat_strs ys,_,rfl,iteB (in_strs hy) ?_⟩
  refine ⟨_,rfl,_,rfl,rfl,bl_of ?_ q⟩
  rw [decide_eq_false (fun z=>ne (V.str.inj z))]
  rfl
theorem scName:FnScope ["thing"] ["thing"] (defScope sName):=⟨rfl,rfl,rfl,by decide+kernel,rfl,by decide+kernel,by decide+kernel⟩
theorem ok_name {f:Addr} {fd:FuncData} (F:Fun K "is_name" "is_name" sName f fd) (B:Blt mg) (Cn:Csts mg):FnOk P w K mg base CX0 1 f fd ["thing"] spName:=by
 refine F.ok scName (fun vs H Q E h=>?_) (fun cdv A outer s H vs Q E hr h=>?_)
 ·obtain ⟨l,rfl,_⟩:=h
  rfl
 ·obtain ⟨l,rfl,hN,q⟩:=h
  refine ⟨_,(pss_cons (ps_if (PW.pt (pw_or (pt_not (pt_val (pe_callB call_isi (by rfl) B.isinstance bt_isinstance (pa_cons (pv 0) (pa_cons (pe_bty (by rfl) B.str bt_str) pa_nil))))) (pw_or1 (pt_not (pt_chain op_le op_le pe_int (pe_callB call_len_str (by rfl) B.len bt_len (pa_cons (pv 0) pa_nil)) (pe_const (by rfl) Cn.MOST_SIGNS)))))) (pss_one (ps_ret pe_bl)) pss_nil)
   (pss_one (ps_ret (pe_callB (call_all rfl) (by rfl) B.all_ bt_all (pa_cons (pe_lc (N':=["sign"]) (cs:=[none]) rfl (pi_str (pv 0)) rfl (by decide+kernel) rfl (by decide+kernel) (sub_of (fun p hp=>absurd hp (List.not_mem_nil))) rfl
    (.own .nil)
    (fun C s3 H3 fp pn=>⟨(pg_name (i:=0) (by show (["sign"]:List Str).Nodup;decide+kernel) rfl (.inl rfl)),pif_nil,(pe_chain op_le_str op_le_str pe_str (pv 0) pe_str)⟩)) pa_nil))))),?_⟩
  have hl:=S_len l
  have hz:(S l).length≤sizeLine:=Nat.le_of_lt (small1000 (by rw [hl];have:=hN.2.1;omega))
  have h1:(1:Int)≤((S l).length:Int):=by have:=hN.1;omega
  have h8:((S l).length:Int)≤8:=by have:=hN.2.1;omega
  refine ⟨_,rfl,_,_,_,_,_,rfl,⟨rfl,.str _,kit_eq _ _⟩,_,rfl,iteF ?_⟩
  refine ⟨_,rfl,_,rfl,hz,_,_,rfl,rfl,_,rfl,iteB (decide_eq_true h1) ⟨_,_,rfl,rfl,_,rfl,iteNS h8 ?_⟩⟩
  dsimp only [tNext,tRet,tAndV,tCB,tCons]
  refine tlc_map (J:=Its (S l)) (H1:=H) (xs:=signs (S l)) (rest:=[]) (fun R h=>⟨_,rfl,_,rfl,h⟩) rfl (wk_str _) (small1000 ?_) (fun _=>.bl true) (fun i x H2 R ex sm hR=>?_) (fun D H' h1 h2 h3=>?_)
  ·rw [signs_S,List.length_map]
   have:=hN.2.1
   omega
  ·rw [signs_S] at ex
   obtain ⟨k,hk,rfl⟩:=List.mem_map.mp (List.mem_of_getElem? ex)
   have hk2:=hN.2.2 k hk
   have e1:(!decide ((S [k]).cps.toList < (Str.ofString "a").cps.toList))=true:=by
    rw [sA]
    exact (le_one k 97).trans (decide_eq_true hk2.1)
   have e2:(!decide ((Str.ofString "z").cps.toList < (S [k]).cps.toList))=true:=by
    rw [sZ]
    exact (le_one 122 k).trans (decide_eq_true hk2.2)
   exact ⟨_,rfl,_,_,rfl,rfl,_,rfl,iteB e1 ⟨_,_,rfl,rfl,bl_of e2 (hR H2 (Same.refl _))⟩⟩
  ·exact ⟨D,List.replicate (signs (S l)).length true,rfl,SqL.of (by rw [h2,map_true]),bl_of (all_true _) (q H' h3)⟩
theorem scAreH:FnScope ["things"] ["things"] (defScope sAreH):=⟨rfl,rfl,rfl,by decide+kernel,rfl,by decide+kernel,by decide+kernel⟩
theorem ok_areH {f fN:Addr} {fd fdN:FuncData} (F:Fun K "are_houses" "are_houses" sAreH f fd) (B:Blt mg) (Cn:Csts mg) (D_is_name:Dn K mg "is_name" sName ["thing"] fN fdN) (G_is_name:FnOk P w K mg base CX0 1 fN fdN ["thing"] spName):
  FnOk P w K mg base CX0 2 f fd ["things"] spAreH:=by
 refine F.ok scAreH (fun vs H Q E h=>?_) (fun cdv A outer s H vs Q E hr h=>?_)
 ·obtain ⟨a,hs,rfl,_⟩:=h
  rfl
 ·obtain ⟨a,hs,rfl,ha,hG,q⟩:=h
  refine ⟨_,(pss_cons (ps_if (PW.pt (pw_or (pt_not (pt_val (pe_callB call_isi (by rfl) B.isinstance bt_isinstance (pa_cons (pv 0) (pa_cons (pe_bty (by rfl) B.list bt_list) pa_nil))))) (pw_or1 (pt_cmpR op_gt (pe_callB call_len_seq (by rfl) B.len bt_len (pa_cons (pv 0) pa_nil)) (pe_const (by rfl) Cn.MOST_HOUSES) (nomark _))))) (pss_one (ps_ret pe_bl)) pss_nil)
   (pss_one (ps_ret (pe_and (pe_callB (call_all rfl) (by rfl) B.all_ bt_all (pa_cons (pe_lc (N':=["thing"]) (cs:=[none]) rfl (pi_list (pv 0)) rfl (by decide+kernel) rfl (by decide+kernel) (sub_of (fun p hp=>absurd hp (List.not_mem_nil))) rfl
    (.own .nil)
    (fun C s3 H3 fp pn=>⟨(pg_name (i:=0) (by show (["thing"]:List Str).Nodup;decide+kernel) rfl (.inl rfl)),pif_nil,(pe_call G_is_name (hr.mono (by decide)) (by rfl) D_is_name.at_ D_is_name.fn.kp D_is_name.bd .nil pass0 (pa_cons (pv 0) pa_nil))⟩)) pa_nil)) (pe_one (pe_cmpR op_eq (pe_callB call_len_setO (by rfl) B.len bt_len (pa_cons (pe_callTy (call_set rfl) (by rfl) B.set_ bt_set (pa_cons (pv 0) pa_nil)) pa_nil)) (pe_callB call_len_seq (by rfl) B.len bt_len (pa_cons (pv 0) pa_nil)) (nomark _))))))),?_⟩
  have hl:=txs_len hs
  have hf:=hG.few
  refine ⟨_,rfl,_,_,_,_,_,rfl,⟨rfl,.lst ha,kit_eq _ _⟩,_,rfl,iteF ?_⟩
  refine ⟨_,rfl,a,_,rfl,.inl (SqL.of ha),_,_,rfl,rfl,_,rfl,iteN (decide_eq_false (by omega)) ?_⟩
  dsimp only [tNext,tRet,tAndV,tCB,tCons]
  refine tlc_map (J:=Itl K a) (H1:=H) (xs:=txs hs) (rest:=[]) (fun R h=>⟨_,rfl,a,rfl,⟨_,SqL.of ha⟩,h⟩) rfl (wk_list (SqL.of ha)) (small1000 (by omega)) (fun _=>.bl true) (fun i x H2 R ex sm hR=>?_) (fun D H' h1 h2 h3=>?_)
  ·obtain ⟨l,hl',rfl⟩:=List.mem_map.mp (List.mem_of_getElem? ex)
   exact ⟨_,rfl,l,rfl,hG.nm l hl',fun H' sm'=>hR H' sm'⟩
  ·refine ⟨D,List.replicate (txs hs).length true,rfl,SqL.of (by rw [h2,map_true]),_,rfl,iteB (all_true _) ?_⟩
   have ha':=h3 _ _ ha
   refine ⟨_,rfl,a,hs.map S,rfl,SqL.of (by rw [ha',txs_map]),(by rw [List.length_map];omega),fun p hp=>?_⟩
   have s2:Same H' (upd H' p (setO P w p (cntS (fun i=>(hs.map S).getD i Str.empty) (hs.map S).length))):=upd_free hp
   refine ⟨p,_,rfl,upd_same,_,rfl,a,_,rfl,.inl (SqL.of (s2 _ _ ha')),rfl,bl_of (decide_eq_true ?_) (q _ (h3.trans s2))⟩
   rw [cntS_all _ _ (nodup_S hG.nd),List.length_map,hl]
theorem scRoad:FnScope ["houses","thing"] ["houses","thing"] (defScope sRoad):=⟨rfl,rfl,rfl,by decide+kernel,rfl,by decide+kernel,by decide+kernel⟩
theorem ok_road {f f1 f2 f3:Addr} {fd fd1 fd2 fd3:FuncData} (F:Fun K "is_road" "is_road" sRoad f fd) (Cn:Csts mg)
  (D_is_tuple_of:Dn K mg "is_tuple_of" sTupOf ["thing","length"] f1 fd1) (G_is_tuple_of:FnOk P w K mg base CX0 1 f1 fd1 ["thing","length"] spTupOf)
  (D_are_unlike_houses:Dn K mg "are_unlike_houses" sUnlike ["houses","one","other"] f2 fd2) (G_are_unlike_houses:FnOk P w K mg base CX0 1 f2 fd2 ["houses","one","other"] (spUnlike K))
  (D_is_whole_within:Dn K mg "is_whole_within" sWithin ["thing","least","greatest"] f3 fd3) (G_is_whole_within:FnOk P w K mg base CX0 2 f3 fd3 ["thing","least","greatest"] spWithin):
  FnOk P w K mg base CX0 3 f fd ["houses","thing"] (spRoad K):=by
 refine F.ok scRoad (fun vs H Q E h=>?_) (fun cdv A outer s H vs Q E hr h=>?_)
 ·obtain ⟨a,r,hs,d,rfl,_⟩:=h
  rfl
 ·obtain ⟨a,r,hs,d,rfl,hS,nd,ok,hr',q⟩:=h
  refine ⟨_,(pss_one (ps_ret (pe_and (pe_call G_is_tuple_of (hr.mono (by decide)) (by rfl) D_is_tuple_of.at_ D_is_tuple_of.fn.kp D_is_tuple_of.bd .nil pass0 (pa_cons (pv 1) (pa_cons pe_int pa_nil))) (pe_and (pe_call G_are_unlike_houses (hr.mono (by decide)) (by rfl) D_are_unlike_houses.at_ D_are_unlike_houses.fn.kp D_are_unlike_houses.bd .nil pass0 (pa_cons (pv 0) (pa_cons (pe_ix ix_tup (pv 1) pe_int (fun _ _=>rfl)) (pa_cons (pe_ix ix_tup (pv 1) pe_int (fun _ _=>rfl)) pa_nil)))) (pe_and (pe_call G_is_whole_within (hr.mono (by decide)) (by rfl) D_is_whole_within.at_ D_is_whole_within.fn.kp D_is_whole_within.bd .nil pass0 (pa_cons (pe_ix ix_tup (pv 1) pe_int (fun _ _=>rfl)) (pa_cons pe_int (pa_cons (pe_const (by rfl) Cn.MOST_TURNS) pa_nil)))) (pe_one (pe_call G_is_whole_within (hr.mono (by decide)) (by rfl) D_is_whole_within.at_ D_is_whole_within.fn.kp D_is_whole_within.bd .nil pass0 (pa_cons (pe_ix ix_tup (pv 1) pe_int (fun _ _=>rfl)) (pa_cons pe_int (pa_cons (pe_const (by rfl) Cn.MOST_ROOM) pa_nil)))))))))),?_⟩
  have hS':SqL K H a ((hs.map S).map V.str):=by rw [←txs_map];exact hS
  refine ⟨_,rfl,r,_,_,rfl,hr',rfl,_,rfl,iteT ?_⟩
  refine ⟨_,rfl,_,rfl,r,_,_,_,rfl,rfl,SqT.of hr',rfl,_,rfl,r,_,_,_,rfl,rfl,SqT.of hr',rfl,a,hs.map S,_,_,rfl,hS',mem_at ok.a,mem_at ok.b,ne_at nd ok.a ok.b ok.ne,_,rfl,iteT ?_⟩
  refine ⟨_,rfl,r,_,_,_,rfl,rfl,SqT.of hr',rfl,_,_,_,rfl,ok.t.1,ok.t.2,_,rfl,iteT ?_⟩
  exact ⟨_,rfl,r,_,_,_,rfl,rfl,SqT.of hr',rfl,_,_,_,rfl,ok.m.1,ok.m.2,q⟩
theorem scAreR:FnScope ["houses","things"] ["houses","things"] (defScope sAreR):=⟨rfl,rfl,rfl,by decide+kernel,rfl,by decide+kernel,by decide+kernel⟩
theorem ok_areR {f fN:Addr} {fd fdN:FuncData} (F:Fun K "are_roads" "are_roads" sAreR f fd) (B:Blt mg) (Cn:Csts mg) (D_is_road:Dn K mg "is_road" sRoad ["houses","thing"] fN fdN) (G_is_road:FnOk P w K mg base CX0 3 fN fdN ["houses","thing"] (spRoad K)):
  FnOk P w K mg base CX0 4 f fd ["houses","things"] (spAreR K):=by
 refine F.ok scAreR (fun vs H Q E h=>?_) (fun cdv A outer s H vs Q E hr h=>?_)
 ·obtain ⟨a,b,hs,rs,ds,rfl,_⟩:=h
  rfl
 ·obtain ⟨a,b,hs,rs,ds,rfl,ha,nd,hb,hR,few,q⟩:=h
  refine ⟨_,(pss_cons (ps_if (PW.pt (pw_or (pt_not (pt_val (pe_callB call_isi (by rfl) B.isinstance bt_isinstance (pa_cons (pv 1) (pa_cons (pe_bty (by rfl) B.list bt_list) pa_nil))))) (pw_or1 (pt_cmpR op_gt (pe_callB call_len_seq (by rfl) B.len bt_len (pa_cons (pv 1) pa_nil)) (pe_const (by rfl) Cn.MOST_ROADS) (nomark _))))) (pss_one (ps_ret pe_bl)) pss_nil)
   (pss_one (ps_ret (pe_callB (call_all rfl) (by rfl) B.all_ bt_all (pa_cons (pe_lc (N':=["thing","houses"]) (cs:=[none,some 0]) rfl (pi_list (pv 1)) rfl (by decide+kernel) rfl (by decide+kernel) (sub_of (List.forall_mem_cons.mpr ⟨rfl,(fun p hp=>absurd hp (List.not_mem_nil))⟩)) rfl
    (.own (.cap rfl (.inl rfl) (.inl rfl) rfl .nil))
    (fun C s3 H3 fp pn=>⟨(pg_name (i:=0) (by show (["thing","houses"]:List Str).Nodup;decide+kernel) rfl (.inl rfl)),pif_nil,(pe_call G_is_road (hr.mono (by decide)) (by rfl) D_is_road.at_ D_is_road.fn.kp D_is_road.bd .nil pass0 (pa_cons (pv 1) (pa_cons (pv 0) pa_nil)))⟩)) pa_nil))))),?_⟩
  have hl:=refs_len rs
  refine ⟨_,rfl,_,_,_,_,_,rfl,⟨rfl,.lst hb,kit_eq _ _⟩,_,rfl,iteF ?_⟩
  refine ⟨_,rfl,b,_,rfl,.inl (SqL.of hb),_,_,rfl,rfl,_,rfl,iteN (decide_eq_false (by omega)) ?_⟩
  dsimp only [tNext,tRet,tAndV,tCB,tCons]
  refine tlc_map (J:=Itl K b) (H1:=H) (xs:=refs rs) (rest:=[some (.ref a)]) (fun R h=>⟨_,rfl,b,rfl,⟨_,SqL.of hb⟩,h⟩) rfl (wk_list (SqL.of hb)) (small1000 (by omega)) (fun _=>.bl true) (fun i x H2 R ex sm hr2=>?_) (fun D H' h1 h2 h3=>?_)
  ·unfold refs at ex
   rw [List.getElem?_map] at ex
   obtain ⟨r,er,rfl⟩:=Option.map_eq_some_iff.mp ex
   obtain ⟨d,_,ok,hd⟩:=hR.get er
   exact ⟨_,rfl,_,rfl,a,r,hs,d,rfl,sm.seq ha,nd,ok,sm _ _ hd,hr2 H2 (Same.refl _)⟩
  ·exact ⟨D,List.replicate (refs rs).length true,rfl,SqL.of (by rw [h2,map_true]),bl_of (all_true _) (q H' h3)⟩
noncomputable abbrev sInit:Stmt:=inClass (top 36) 0
noncomputable abbrev sHousesM:Stmt:=inClass (top 36) 1
noncomputable abbrev sRoadsM:Stmt:=inClass (top 36) 2
theorem scInit:FnScope ["self","houses","roads"] ["self","houses","roads"] (defScope sInit):=⟨rfl,rfl,rfl,by decide+kernel,rfl,by decide+kernel,by decide+kernel⟩
theorem ok_init {C f fH fR:Addr} {fd fdH fdR:FuncData} (F:Fun K "__init__" "Net.__init__" sInit f fd) (B:Blt mg) (NC:NetC K C)
  (D_are_houses:Dn K mg "are_houses" sAreH ["things"] fH fdH) (G_are_houses:FnOk P w K mg base CX0 2 fH fdH ["things"] spAreH)
  (D_are_roads:Dn K mg "are_roads" sAreR ["houses","things"] fR fdR) (G_are_roads:FnOk P w K mg base CX0 4 fR fdR ["houses","things"] (spAreR K)):
  FnOk P w K mg base CX0 5 f fd ["self","houses","roads"] (spInit K C):=by
 refine F.ok scInit (fun vs H Q E h=>?_) (fun cdv A outer s H vs Q E hr h=>?_)
 ·obtain ⟨x,dx,a,b,hs,rs,ds,rfl,_⟩:=h
  rfl
 ·obtain ⟨x,dx,a,b,hs,rs,ds,rfl,hx,ha,hG,hb,hR,few,q⟩:=h
  refine ⟨_,(pss_cons (ps_if (pt_not (pt_val (pe_call G_are_houses (hr.mono (by decide)) (by rfl) D_are_houses.at_ D_are_houses.fn.kp D_are_houses.bd .nil pass0 (pa_cons (pv 1) pa_nil)))) (pss_one ps_never) pss_nil)
   (pss_cons (ps_if (pt_not (pt_val (pe_call G_are_roads (hr.mono (by decide)) (by rfl) D_are_roads.at_ D_are_roads.fn.kp D_are_roads.bd .nil pass0 (pa_cons (pv 1) (pa_cons (pv 2) pa_nil))))) (pss_one ps_never) pss_nil)
   (pss_cons (ps_fld (pv 0) (pe_callTy call_list_of (by rfl) B.list bt_list (pa_cons (pv 1) pa_nil)) rfl)
   (pss_one (ps_fld (pv 0) (pe_callTy call_list_of (by rfl) B.list bt_list (pa_cons (pv 2) pa_nil)) rfl))))),?_⟩
  refine ⟨_,rfl,a,hs,rfl,ha,hG,fun H1 s1=>⟨_,rfl,iteF ?_⟩⟩
  refine ⟨_,rfl,_,rfl,a,b,hs,rs,ds,rfl,SqL.of (s1 _ _ ha),hG.nd,s1 _ _ hb,hR.same s1,few,fun H2 s2=>⟨_,rfl,iteF ?_⟩⟩
  have s12:=s1.trans s2
  refine ⟨_,rfl,a,_,rfl,.inl (SqL.of (s12 _ _ ha)),fun a' ha'=>?_⟩
  have s3:Same H2 (upd H2 a' (.lst (txs hs))):=upd_free ha'
  have s13:=s12.trans s3
  have nx:x≠a':=ne_of_none (s12 _ _ hx) ha'
  refine ⟨_,rfl,x,C,dx,_,rfl,s13 _ _ hx,NC.cl,NC.nh,(by decide),?_⟩
  have hbx:b≠x:=fun e=>by rw [e,hx] at hb;cases hb
  have hb4:upd (upd H2 a' (.lst (txs hs))) x (.ins C dx (putF "kept_houses" (.ref a') [])) b=some (.lst (refs rs)):=by
   rw [upd_ne hbx]
   exact s13 _ _ hb
  refine ⟨_,rfl,b,_,rfl,.inl (SqL.of hb4),fun b' hb'=>?_⟩
  have nx2:b'≠x:=fun e=>by rw [e,upd_same] at hb';cases hb'
  have nb:b'≠a':=fun e=>by rw [e,upd_ne nx.symm,upd_same] at hb';cases hb'
  refine ⟨_,rfl,x,C,dx,_,rfl,(by rw [upd_ne nx2.symm,upd_same]),NC.cl,NC.nr,(by show 1 < 1000;decide),?_⟩
  refine q _ a' b' (fun c o hc hH=>?_) (by rw [upd_same];rfl) ?_ ?_ ?_ ?_
  ·rw [upd_ne hc]
   have:c≠b':=fun e=>by
    rw [←e,upd_ne hc,s13 _ _ hH] at hb'
    cases hb'
   rw [upd_ne this,upd_ne hc]
   exact s13 _ _ hH
  ·rw [upd_ne nx.symm,upd_ne nb.symm,upd_ne nx.symm,upd_same]
  ·rw [upd_ne nx2,upd_same]
  ·exact s12.free ha'
  ·rw [upd_ne nx2,upd_ne nb] at hb'
   exact s12.free hb'
theorem scHousesM:FnScope ["self"] ["self"] (defScope sHousesM):=⟨rfl,rfl,rfl,by decide+kernel,rfl,by decide+kernel,by decide+kernel⟩
theorem scRoadsM:FnScope ["self"] ["self"] (defScope sRoadsM):=⟨rfl,rfl,rfl,by decide+kernel,rfl,by decide+kernel,by decide+kernel⟩
theorem ok_housesM {C f:Addr} {fd:FuncData} (F:Fun K "houses" "Net.houses" sHousesM f fd) (B:Blt mg) (NC:NetC K C):FnOk P w K mg base CX0 1 f fd ["self"] (spHousesM C):=by
 refine F.ok scHousesM (fun vs H Q E h=>?_) (fun cdv A outer s H vs Q E hr h=>?_)
 ·obtain ⟨x,a',b',xs,ys,rfl,_⟩:=h
  rfl
 ·obtain ⟨x,a',b',xs,ys,rfl,n,q⟩:=h
  obtain ⟨dx,hx⟩:=n.ins
  refine ⟨_,(pss_one (ps_ret (pe_callTy call_list_of (by rfl) B.list bt_list (pa_cons (pe_fld (pv 0) (by rfl)) pa_nil)))),?_⟩
  exact ⟨_,rfl,x,C,dx,_,_,rfl,hx,NC.cl,NC.nh,rfl,a',_,rfl,.inl (SqL.of n.hou),q⟩
theorem ok_roadsM {C f:Addr} {fd:FuncData} (F:Fun K "roads" "Net.roads" sRoadsM f fd) (B:Blt mg) (NC:NetC K C):FnOk P w K mg base CX0 1 f fd ["self"] (spRoadsM C):=by
 refine F.ok scRoadsM (fun vs H Q E h=>?_) (fun cdv A outer s H vs Q E hr h=>?_)
 ·obtain ⟨x,a',b',xs,ys,rfl,_⟩:=h
  rfl
 ·obtain ⟨x,a',b',xs,ys,rfl,n,q⟩:=h
  obtain ⟨dx,hx⟩:=n.ins
  refine ⟨_,(pss_one (ps_ret (pe_callTy call_list_of (by rfl) B.list bt_list (pa_cons (pe_fld (pv 0) (by rfl)) pa_nil)))),?_⟩
  exact ⟨_,rfl,x,C,dx,_,_,rfl,hx,NC.cl,NC.nr,rfl,b',_,rfl,.inl (SqL.of n.roa),q⟩
end
open PySem L2 L3 M1
theorem passD {P:Program} {w:World} {X:Cx}:Passes (CXd P w) X E0:=fun _ _ _ _ _ _ _ h=>by
 obtain ⟨_,_,_,_,_,_,_,_,_,h⟩:=h
 exact h.elim
theorem tlc_tup {wi:TI} {cs:List (Option Nat)} {te:TE} {σ rest:L2.St} {H H1:Hp} {Q:VK} {J:It} {xs:List L2.V} (hw:∀R:It→Hp→Prop,R J H1→wi σ H R) (hcs:caps cs σ=none::rest) (wk:Wk J H1 xs) (hl:xs.length < sizeLine) (f:L2.V→List L2.V)
  (elt:∀(i:Nat) (x:L2.V) (H2:Hp) (R:VK),xs[i]?=some x→Same H1 H2→(∀r H5,Same H2 H5→H5 r=some (.tup (f x))→R (.ref r) H5)→te (some x::rest) H2 R)
  (fin:∀(D:Addr) (H':Hp) (rs:List Addr),H1 D=none→H' D=some (.lst (refs rs))→Tups H' rs (xs.map f)→Same H1 H'→Q (.ref D) H'):tLC wi cs (gName 0) tAll te σ H Q:=by
 refine hw _ fun D hD=>?_
 refine ⟨fun i m ys σ' H'=>m=xs.length - i∧i≤xs.length∧(∃rs,ys=refs rs∧Tups H' rs ((xs.take i).map f))∧(∃o,σ'=o::rest)∧Same H1 H'∧H' D=some (.lst ys),⟨xs.length,by simp,Nat.zero_le _,⟨[],rfl,.nil⟩,⟨none,hcs⟩,fun b o e=>?_,upd_same⟩,?_⟩
 ·rw [upd_ne (ne_of_none e hD)]
  exact e
 ·rintro i m ys σ' H' ⟨rfl,hi,⟨rs,rfl,tp⟩,⟨o,rfl⟩,sm,hHD⟩
  obtain ⟨w1,w2,w3⟩:=wk H' sm
  have ln:=tp.len
  rw [List.length_map,List.length_take,Nat.min_eq_left hi] at ln
  refine ⟨hHD,Nat.lt_of_le_of_lt (by rw [refs_len];omega) hl,?_⟩
  by_cases hlt:i < xs.length
  ·refine .inr ⟨w2 i hlt,fun x H2 y=>?_⟩
   obtain ⟨rfl,ex⟩:=w3 i x H2 hlt y
   have tk:xs.take (i+1)=xs.take i++[x]:=by rw [List.take_add_one,ex];rfl
   show te (some x::rest) H2 _
   refine elt i x H2 _ ex sm fun r H5 s5 hr=>⟨s5 _ _ hHD,xs.length - (i+1),by omega,rfl,hlt,⟨rs++[r],refs_snoc rs r,?_⟩,⟨_,rfl⟩,fun b ob e=>?_,upd_same⟩
   ·rw [tk,List.map_append]
    exact Tups.upd (Paired.snoc (F:=fun r d=>H5 r=some (.tup d)) hr (tp.same s5)) (s5 _ _ hHD) (by intro d z;cases z)
   ·rw [upd_ne (ne_of_none e hD)]
    exact s5 _ _ (sm _ _ e)
  ·have e:i=xs.length:=by omega
   subst e
   rw [List.take_length] at tp
   exact .inl ⟨w1,fin D H' rs hD hHD tp sm⟩
theorem eqv_str (x y:Str):PyData.eqv (.str x) (.str y)=decide (x=y):=by
 by_cases h:x=y
 ·subst h;rw [decide_eq_true rfl];simp [PyData.eqv]
 ·rw [decide_eq_false h];simp [PyData.eqv,h]
theorem inD_yes {hs:List (List Nat)} {k:Nat} (h:k < hs.length):inD (.str (S (hs.getD k []))) (hD hs)=true:=by
 unfold inD hD
 rw [List.any_eq_true]
 have hm:hs.getD k []∈hs:=by rw [List.getD,List.getElem?_eq_getElem h];exact List.getElem_mem h
 exact ⟨_,List.mem_map.mpr ⟨_,List.mem_map.mpr ⟨_,hm,rfl⟩,rfl⟩,by rw [eqv_str];exact decide_eq_true rfl⟩
theorem dlist {ds:List PyData} {n:Nat} (h:∀d∈ds,d.depth≤n):(PyData.list ds).depth≤n+1:=Nat.succ_le_succ (depth_all h)
theorem tlc_idx {wi:TI} {cs:List (Option Nat)} {te:TE} {σ rest:L2.St} {H H1:Hp} {Q:VK} {J:It} {xs:List L2.V} (hw:∀R:It→Hp→Prop,R J H1→wi σ H R) (hcs:caps cs σ=none::rest) (wk:Wk J H1 xs) (hl:xs.length < sizeLine) (f:Nat→L2.V)
  (elt:∀(i:Nat) (x:L2.V) (H2:Hp) (R:VK),xs[i]?=some x→Same H1 H2→(∀H5,Same H2 H5→R (f i) H5)→te (some x::rest) H2 R)
  (fin:∀(D:Addr) (H':Hp),H1 D=none→H' D=some (.lst ((List.range xs.length).map f))→Same H1 H'→Q (.ref D) H'):tLC wi cs (gName 0) tAll te σ H Q:=by
 refine hw _ fun D hD=>?_
 refine ⟨fun i m ys σ' H'=>m=xs.length - i∧i≤xs.length∧ys=(List.range i).map f∧(∃o,σ'=o::rest)∧Same H1 H'∧H' D=some (.lst ys),⟨xs.length,by simp,Nat.zero_le _,rfl,⟨none,by rw [hcs]⟩,fun b o e=>?_,upd_same⟩,?_⟩
 ·rw [upd_ne (ne_of_none e hD)]
  exact e
 ·rintro i m ys σ' H' ⟨rfl,hi,rfl,⟨o,rfl⟩,sm,hHD⟩
  obtain ⟨w1,w2,w3⟩:=wk H' sm
  refine ⟨hHD,Nat.lt_of_le_of_lt (by rw [List.length_map,List.length_range];omega) hl,?_⟩
  by_cases hlt:i < xs.length
  ·refine .inr ⟨w2 i hlt,fun x H2 y=>?_⟩
   obtain ⟨rfl,ex⟩:=w3 i x H2 hlt y
   show te (some x::rest) H2 _
   refine elt i x H2 _ ex sm fun H5 s5=>⟨s5 _ _ hHD,xs.length - (i+1),by omega,rfl,hlt,?_,⟨_,rfl⟩,fun b ob e=>?_,upd_same⟩
   ·rw [List.range_succ,List.map_append]
    rfl
   ·rw [upd_ne (ne_of_none e hD)]
    exact s5 _ _ (sm _ _ e)
  ·have e:i=xs.length:=by omega
   subst e
   exact .inl ⟨w1,fin D H' hD hHD sm⟩
end K1
namespace L3
open PySem PySem.Spec PyProof.Rows L2
section
variable {X:Cx} {e:Expr} {te:TE} {pos p2:Pos} {lo hi:Option Expr} {tl th:TO}
theorem bt_mn:bootBuiltins "min"=some (.builtin "min"):=by decide+kernel
end
end L3
namespace K1
open PySem L2 L3 M1
theorem tlc_fi {wi:TI} {cs:List (Option Nat)} {tt:TT} {te:TE} {σ rest:L2.St} {H H1:Hp} {Q:VK} {J:It} {xs:List L2.V} (hw:∀R:It→Hp→Prop,R J H1→wi σ H R) (hcs:caps cs σ=none::rest) (wk:Wk J H1 xs) (hl:xs.length < sizeLine) (p:Nat→Bool) (f:Nat→L2.V)
  (test:∀(i:Nat) (x:L2.V) (H2:Hp) (R:Bool→Hp→Prop),xs[i]?=some x→Same H1 H2→(∀H5,Same H2 H5→R (p i) H5)→tt (some x::rest) H2 R)
  (elt:∀(i:Nat) (x:L2.V) (H2:Hp) (R:VK),xs[i]?=some x→p i=true→Same H1 H2→(∀H5,Same H2 H5→R (f i) H5)→te (some x::rest) H2 R)
  (fin:∀(D:Addr) (H':Hp),H1 D=none→H' D=some (.lst (((List.range xs.length).filter p).map f))→Same H1 H'→Q (.ref D) H'):tLC wi cs (gName 0) tt te σ H Q:=by
 refine hw _ fun D hD=>?_
 refine ⟨fun i m ys σ' H'=>m=xs.length - i∧i≤xs.length∧ys=((List.range i).filter p).map f∧(∃o,σ'=o::rest)∧Same H1 H'∧H' D=some (.lst ys),⟨xs.length,by simp,Nat.zero_le _,rfl,⟨none,by rw [hcs]⟩,fun b o e=>?_,upd_same⟩,?_⟩
 ·rw [upd_ne (ne_of_none e hD)]
  exact e
 ·rintro i m ys σ' H' ⟨rfl,hi,rfl,⟨o,rfl⟩,sm,hHD⟩
  obtain ⟨w1,w2,w3⟩:=wk H' sm
  refine ⟨hHD,Nat.lt_of_le_of_lt ?_ hl,?_⟩
  ·rw [List.length_map]
   refine Nat.le_trans (List.length_filter_le _ _) ?_
   rw [List.length_range]
   exact hi
  by_cases hlt:i < xs.length
  ·refine .inr ⟨w2 i hlt,fun x H2 y=>?_⟩
   obtain ⟨rfl,ex⟩:=w3 i x H2 hlt y
   show tt (some x::rest) H2 _
   refine test i x H2 _ ex sm fun H4 s4=>?_
   cases hp:p i with
   | true=>
    refine iteT ?_
    refine elt i x H4 _ ex hp (sm.trans s4) fun H5 s5=>⟨s5 _ _ (s4 _ _ hHD),xs.length - (i+1),by omega,rfl,hlt,?_,⟨_,rfl⟩,fun b ob e=>?_,upd_same⟩
    ·rw [List.range_succ,List.filter_append,List.map_append]
     simp [hp]
    ·rw [upd_ne (ne_of_none e hD)]
     exact s5 _ _ (s4 _ _ (sm _ _ e))
   | false=>
    refine iteF ⟨xs.length - (i+1),by omega,rfl,hlt,?_,⟨_,rfl⟩,sm.trans s4,s4 _ _ hHD⟩
    rw [List.range_succ,List.filter_append,List.map_append]
    simp [hp]
  ·have e:i=xs.length:=by omega
   subst e
   exact .inl ⟨w1,fin D H' hD hHD sm⟩
theorem gd_of {α:Type} {l:List α} {i:Nat} {x d:α} (e:l[i]?=some x):l.getD i d=x:=by rw [List.getD,e];rfl
theorem range_getD {α β:Type} (g:α→β) (d0:α) (ls:List α):((List.range ls.length).map fun i=>g (ls.getD i d0))=ls.map g:=by
 apply List.ext_getElem
 ·simp
 ·intro i h1 h2
  simp only [List.length_map,List.length_range] at h1
  simp [List.getD,h1]
structure Step where
 left:Int
 by_:Option Int
 house:Str
 due:Int
noncomputable def byV:Option Int→L2.V
 | none=>.non
 | some i=>.int i
noncomputable def stV (s:Step):List L2.V:=[.int s.left,byV s.by_,.str s.house,.int s.due]
noncomputable def walkFs (n g st:Addr):List (Str × L2.V):=[("net",.ref n),("goals",.ref g),("steps",.ref st)]
noncomputable def StepsAt (H:Hp) (l:Addr) (ss:List Step):Prop:=∃ts,H l=some (.lst (refs ts))∧Tups H ts (ss.map stV)
structure WalkAt (C:Addr) (H:Hp) (x n g st:Addr) (gs:List Str) (ls:List Addr) (sss:List (List Step)):Prop where
 ins:∃dx,H x=some (.ins C dx (walkFs n g st))
 goals:H g=some (.lst (gs.map V.str))
 steps:H st=some (.lst (refs ls))
 each:Paired (StepsAt H) ls sss
structure WalkC (K:PySem.W.Frag) (C:Addr):Prop where
 cl:Cls K C
 nn:PySem.W.findIn K (.ref C) "net"=some none
 ng:PySem.W.findIn K (.ref C) "goals"=some none
 ns:PySem.W.findIn K (.ref C) "steps"=some none
noncomputable def spGoal (C:Addr):Sp:=fun vs H Q _=>∃(x n g st:Addr) (gs:List Str) (ls:List Addr) (sss:List (List Step)) (k:Nat) (y:Str),vs=[.ref x,.int k]∧WalkAt C H x n g st gs ls sss∧gs[k]?=some y∧Q (.str y) H
noncomputable def spLastH (C:Addr):Sp:=fun vs H Q _=>∃(x n g st:Addr) (gs:List Str) (ls:List Addr) (sss:List (List Step)) (k:Nat) (ss:List Step) (s:Step),vs=[.ref x,.int k]∧WalkAt C H x n g st gs ls sss∧sss[k]?=some (ss++[s])∧Q (.str s.house) H
noncomputable def spLastT (C:Addr):Sp:=fun vs H Q _=>∃(x n g st:Addr) (gs:List Str) (ls:List Addr) (sss:List (List Step)) (k:Nat) (ss:List Step) (s:Step),vs=[.ref x,.int k]∧WalkAt C H x n g st gs ls sss∧sss[k]?=some (ss++[s])∧Q (.int s.due) H
theorem atI_last' {xs:List L2.V} {v:L2.V}:L2.atI (xs++[v]) (-1)=some v:=by
 unfold L2.atI L2.ixN
 rw [List.length_append,if_neg (by decide),if_pos (by show -((xs.length+1:Nat):Int)≤-1;omega)]
 show (xs++[v])[((-1:Int)+((xs.length+1:Nat):Int)).toNat]?=_
 have e:((-1:Int)+((xs.length+1:Nat):Int)).toNat=xs.length:=by omega
 rw [e]
 simp
section
variable {P:Program} {w:World} {K:PySem.W.Frag} {mg:Str→Option Value} {base:Heap}
noncomputable abbrev sLastH:Stmt:=inClass (top 20) 4
theorem scLastH:FnScope ["self","number"] ["self","number"] (defScope sLastH):=⟨rfl,rfl,rfl,by decide+kernel,rfl,by decide+kernel,by decide+kernel⟩
theorem last_at {C:Addr} {H:Hp} {x n g st:Addr} {gs:List Str} {ls:List Addr} {sss:List (List Step)} {k:Nat} {ss:List Step} {s:Step} (W:WalkAt C H x n g st gs ls sss) (e:sss[k]?=some (ss++[s])):
  ∃l ts t,ls[k]?=some l∧H l=some (.lst (refs (ts++[t])))∧H t=some (.tup (stV s)):=by
 have ln:=Paired.length W.each
 obtain ⟨hk,_⟩:=List.getElem?_eq_some_iff.mp e
 obtain ⟨l,el⟩:∃l,ls[k]?=some l:=⟨_,List.getElem?_eq_getElem (by omega)⟩
 obtain ⟨ss',es,ts,hl,tp⟩:=Paired.get W.each el
 rw [e] at es
 cases es
 have lt:=tp.len
 rw [List.length_map,List.length_append] at lt
 simp only [List.length_cons,List.length_nil] at lt
 obtain ⟨t,et⟩:∃t,ts[ss.length]?=some t:=⟨_,List.getElem?_eq_getElem (by omega)⟩
 obtain ⟨d,ed,hd⟩:=Paired.get tp et
 rw [List.map_append,List.getElem?_append_right (by rw [List.length_map];omega),List.length_map,Nat.sub_self] at ed
 cases ed
 refine ⟨l,ts.take ss.length,t,el,?_,hd⟩
 have e2:ts=ts.take ss.length++[t]:=by
  have this:=(List.take_append_drop ss.length ts).symm
  have hd2:ts.drop ss.length=[t]:=by
   rw [List.drop_eq_getElem_cons (by omega:ss.length < ts.length)]
   rw [List.getElem?_eq_getElem (by omega:ss.length < ts.length)] at et
   cases et
   rw [List.drop_eq_nil_of_le (by omega)]
  rw [hd2] at this
  exact this
 rw [←e2]
 exact hl
theorem ok_lastH {C f:Addr} {fd:FuncData} (F:Fun K "last_house" "Walk.last_house" sLastH f fd) (WC:WalkC K C):FnOk P w K mg base CX0 1 f fd ["self","number"] (spLastH C):=by
 refine F.ok scLastH (fun vs H Q E h=>?_) (fun cdv A outer s H vs Q E hr h=>?_)
 ·obtain ⟨x,n,g,st,gs,ls,sss,k,ss,s',rfl,_⟩:=h
  rfl
 ·obtain ⟨x,n,g,st,gs,ls,sss,k,ss,s',rfl,W,es,q⟩:=h
  obtain ⟨dx,hx⟩:=W.ins
  obtain ⟨l,ts,t,el,hl,ht⟩:=last_at W es
  refine ⟨_,(pss_one (ps_ret (pe_ix ix_tup (pe_ix ix_list (pe_ix ix_list (pe_fld (pv 0) (by rfl)) (pv 1) (fun _ _=>rfl)) (pe_un un_neg pe_int) (fun _ _=>rfl)) pe_int (fun _ _=>rfl)))),?_⟩
  have h1:L2.atI (refs (ts++[t])) (-1)=some (.ref t):=by unfold refs;rw [List.map_append];exact atI_last'
  exact ⟨_,rfl,x,C,dx,_,_,rfl,hx,WC.cl,WC.ns,rfl,_,rfl,st,_,_,_,rfl,rfl,SqL.of W.steps,atI_nat (by unfold refs;rw [List.getElem?_map,el];rfl),_,rfl,l,_,_,_,rfl,rfl,SqL.of hl,h1,t,_,_,_,rfl,rfl,SqT.of ht,rfl,q⟩
noncomputable abbrev sLastT:Stmt:=inClass (top 20) 5
theorem scLastT:FnScope ["self","number"] ["self","number"] (defScope sLastT):=⟨rfl,rfl,rfl,by decide+kernel,rfl,by decide+kernel,by decide+kernel⟩
theorem ok_lastT {C f:Addr} {fd:FuncData} (F:Fun K "last_turn" "Walk.last_turn" sLastT f fd) (WC:WalkC K C):FnOk P w K mg base CX0 1 f fd ["self","number"] (spLastT C):=by
 refine F.ok scLastT (fun vs H Q E h=>?_) (fun cdv A outer s H vs Q E hr h=>?_)
 ·obtain ⟨x,n,g,st,gs,ls,sss,k,ss,s',rfl,_⟩:=h
  rfl
 ·obtain ⟨x,n,g,st,gs,ls,sss,k,ss,s',rfl,W,es,q⟩:=h
  obtain ⟨dx,hx⟩:=W.ins
  obtain ⟨l,ts,t,el,hl,ht⟩:=last_at W es
  refine ⟨_,(pss_one (ps_ret (pe_ix ix_tup (pe_ix ix_list (pe_ix ix_list (pe_fld (pv 0) (by rfl)) (pv 1) (fun _ _=>rfl)) (pe_un un_neg pe_int) (fun _ _=>rfl)) pe_int (fun _ _=>rfl)))),?_⟩
  have h1:L2.atI (refs (ts++[t])) (-1)=some (.ref t):=by unfold refs;rw [List.map_append];exact atI_last'
  exact ⟨_,rfl,x,C,dx,_,_,rfl,hx,WC.cl,WC.ns,rfl,_,rfl,st,_,_,_,rfl,rfl,SqL.of W.steps,atI_nat (by unfold refs;rw [List.getElem?_map,el];rfl),_,rfl,l,_,_,_,rfl,rfl,SqL.of hl,h1,t,_,_,_,rfl,rfl,SqT.of ht,rfl,q⟩
noncomputable def homeV (s:Step) (g:Str):L2.V:=if s.house=g then .int s.due else .non
noncomputable def spHomeT (C:Addr):Sp:=fun vs H Q _=>∃(x n g st:Addr) (gs:List Str) (ls:List Addr) (sss:List (List Step)) (k:Nat) (ss:List Step) (s:Step) (y:Str),vs=[.ref x,.int k]∧WalkAt C H x n g st gs ls sss∧sss[k]?=some (ss++[s])∧gs[k]?=some y∧Q (homeV s y) H
noncomputable abbrev sHomeT:Stmt:=inClass (top 20) 6
theorem scHomeT:FnScope ["self","number"] ["self","number"] (defScope sHomeT):=⟨rfl,rfl,rfl,by decide+kernel,rfl,by decide+kernel,by decide+kernel⟩
theorem ok_homeT {C f f1 f2:Addr} {fd fd1 fd2:FuncData} (F:Fun K "home_turn" "Walk.home_turn" sHomeT f fd) (WC:WalkC K C)
  (M_Walk_last_house:Mn K C "last_house" "Walk.last_house" sLastH ["self","number"] f1 fd1) (G_Walk_last_house:FnOk P w K mg base CX0 1 f1 fd1 ["self","number"] (spLastH C))
  (M_Walk_last_turn:Mn K C "last_turn" "Walk.last_turn" sLastT ["self","number"] f2 fd2) (G_Walk_last_turn:FnOk P w K mg base CX0 1 f2 fd2 ["self","number"] (spLastT C)):FnOk P w K mg base CX0 2 f fd ["self","number"] (spHomeT C):=by
 have Cl_Walk:=WC.cl
 refine F.ok scHomeT (fun vs H Q E h=>?_) (fun cdv A outer s H vs Q E hr h=>?_)
 ·obtain ⟨x,n,g,st,gs,ls,sss,k,ss,s',y,rfl,_⟩:=h
  rfl
 ·obtain ⟨x,n,g,st,gs,ls,sss,k,ss,s',y,rfl,W,es,ey,q⟩:=h
  obtain ⟨dx,hx⟩:=W.ins
  refine ⟨_,(pss_cons (ps_if (pt_cmpR op_ne (pe_meth (pv 0) Cl_Walk M_Walk_last_house.me G_Walk_last_house (hr.mono (by decide)) M_Walk_last_house.bd .nil pass0 (pa_cons (pv 1) pa_nil)) (pe_ix ix_list (pe_fld (pv 0) (by rfl)) (pv 1) (fun _ _=>rfl)) (nomark _)) (pss_one (ps_ret pe_non)) pss_nil)
   (pss_one (ps_ret (pe_meth (pv 0) Cl_Walk M_Walk_last_turn.me G_Walk_last_turn (hr.mono (by decide)) M_Walk_last_turn.bd .nil pass0 (pa_cons (pv 1) pa_nil))))),?_⟩
  have ag:L2.atI (gs.map V.str) (k:Int)=some (.str y):=atI_nat (by rw [List.getElem?_map,ey];rfl)
  refine ⟨_,rfl,x,dx,_,rfl,hx,rfl,_,rfl,x,n,g,st,gs,ls,sss,k,ss,s',rfl,W,es,?_⟩
  refine ⟨_,rfl,x,C,dx,_,_,rfl,hx,WC.cl,WC.ng,rfl,_,rfl,g,_,_,_,rfl,rfl,SqL.of W.goals,ag,rfl,_,rfl,?_⟩
  unfold homeV at q
  by_cases he:s'.house=y
  ·rw [if_pos he] at q
   exact iteN (by rw [he];simp) ⟨_,rfl,x,dx,_,rfl,hx,rfl,_,rfl,x,n,g,st,gs,ls,sss,k,ss,s',rfl,W,es,q⟩
  ·rw [if_neg he] at q
   exact iteB (by simp [he]) q
noncomputable def ltT (d:Str × Int × Str):List L2.V:=[.str d.1,.int d.2.1,.str d.2.2]
noncomputable def firstS (d:Str × Int × Str):List Step:=[⟨d.2.1,none,d.1,d.2.1⟩]
noncomputable def spWkI (C:Addr):Sp:=fun vs H Q _=>∃(x dx n lp:Addr) (rs:List Addr) (ds:List (Str × Int × Str)),vs=[.ref x,.ref n,.ref lp]∧H x=some (.ins C dx [])∧H lp=some (.lst (refs rs))∧Tups H rs (ds.map ltT)∧rs.length≤100∧
 ∀(H':Hp) (g st:Addr) (lls:List Addr),SameBut x H H'→WalkAt C H' x n g st (ds.map fun d=>d.2.2) lls (ds.map firstS)→H g=none→H st=none→lls.Nodup→(∀l∈lls,H l=none∧l≠st∧l≠g)→g≠st→Q .non H'
noncomputable abbrev sWkI:Stmt:=inClass (top 20) 0
noncomputable def spTake (C:Addr):Sp:=fun vs H Q _=>∃(x dx n g st r:Addr) (gs:List Str) (ls:List Addr) (d:Str × Int × Str),vs=[.ref x,.ref r]∧H x=some (.ins C dx (walkFs n g st))∧H g=some (.lst (gs.map V.str))∧H st=some (.lst (refs ls))∧g≠st∧H r=some (.tup (ltT d))∧gs.length≤100∧ls.length≤100∧
 ∀(H':Hp) (l t:Addr),(∀b o,b≠g→b≠st→H b=some o→H' b=some o)→H' g=some (.lst ((gs++[d.2.2]).map V.str))→H' st=some (.lst (refs (ls++[l])))→H l=none→H t=none→H' l=some (.lst [.ref t])→H' t=some (.tup (stV ⟨d.2.1,none,d.1,d.2.1⟩))→Q .non H'
noncomputable abbrev sTake:Stmt:=inClass (top 20) 1
theorem scTake:FnScope ["self","letter"] ["self","letter"] (defScope sTake):=⟨rfl,rfl,rfl,by decide+kernel,rfl,by decide+kernel,by decide+kernel⟩
theorem ok_take {C f:Addr} {fd:FuncData} (F:Fun K "take_in" "Walk.take_in" sTake f fd) (WC:WalkC K C):FnOk P w K mg base CX0 1 f fd ["self","letter"] (spTake C):=by
 refine F.ok scTake (fun vs H Q E h=>?_) (fun cdv A outer s H vs Q E hr h=>?_)
 ·obtain ⟨x,dx,n,g,st,r,gs,ls,d,rfl,_⟩:=h
  rfl
 ·obtain ⟨x,dx,n,g,st,r,gs,ls,d,rfl,hx,hg,hst,ngs,hd,fg,fl,q⟩:=h
  refine ⟨_,(pss_cons (ps_expr (pe_bm PySem.F.plainAttrs_list PySem.F.slot_list_append PySem.F.type_list_append mt_append (pe_fld (pv 0) (by rfl)) (pa_cons (pe_ix ix_tup (pv 1) pe_int (fun _ _=>rfl)) pa_nil)))
   (pss_one (ps_expr (pe_bm PySem.F.plainAttrs_list PySem.F.slot_list_append PySem.F.type_list_append mt_append (pe_fld (pv 0) (by rfl)) (pa_cons (pe_lst (pa_cons (pe_tup (pa_cons (pe_ix ix_tup (pv 1) pe_int (fun _ _=>rfl)) (pa_cons pe_non (pa_cons (pe_ix ix_tup (pv 1) pe_int (fun _ _=>rfl)) (pa_cons (pe_ix ix_tup (pv 1) pe_int (fun _ _=>rfl)) pa_nil))))) pa_nil)) pa_nil))))),?_⟩
  have ngx:x≠g:=ne_of hx hg (by intro z;cases z)
  have nsx:x≠st:=ne_of hx hst (by intro z;cases z)
  have ngr:r≠g:=ne_of hd hg (by intro z;cases z)
  have nsr:r≠st:=ne_of hd hst (by intro z;cases z)
  refine ⟨_,rfl,x,C,dx,_,_,rfl,hx,WC.cl,WC.ng,rfl,.inl ⟨rfl,_,SqL.of hg⟩,_,rfl,r,_,_,_,rfl,rfl,SqT.of hd,rfl,g,_,_,rfl,rfl,hg,small1000 (by rw [List.length_map];omega),?_⟩
  have hx1:upd H g (.lst (gs.map V.str++[V.str d.2.2])) x=_:=(upd_ne ngx).trans hx
  have hs1:upd H g (.lst (gs.map V.str++[V.str d.2.2])) st=_:=(upd_ne ngs.symm).trans hst
  have hd1:upd H g (.lst (gs.map V.str++[V.str d.2.2])) r=_:=(upd_ne ngr).trans hd
  refine ⟨_,rfl,x,C,dx,_,_,rfl,hx1,WC.cl,WC.ns,rfl,.inl ⟨rfl,_,SqL.of hs1⟩,?_⟩
  refine ⟨_,rfl,r,_,_,_,rfl,rfl,SqT.of hd1,rfl,_,rfl,r,_,_,_,rfl,rfl,SqT.of hd1,rfl,_,rfl,r,_,_,_,rfl,rfl,SqT.of hd1,rfl,(by show 4≤sizeLine;decide),fun t nt=>⟨(by show 1≤sizeLine;decide),fun l nl=>?_⟩⟩
  have fr1:∀{b},upd H g (.lst (gs.map V.str++[V.str d.2.2])) b=none→H b=none∧b≠g:=fun {b} e=>by
   have nb:b≠g:=fun z=>by rw [z,upd_same] at e;cases e
   rw [upd_ne nb] at e
   exact ⟨e,nb⟩
  have nlt:l≠t:=fun z=>by rw [z,upd_same] at nl;cases nl
  have nl1:=nl
  rw [upd_ne nlt] at nl1
  have hs2:=(upd_free (o:=.lst [.ref t]) nl) _ _ ((upd_free (o:=.tup (stV ⟨d.2.1,none,d.1,d.2.1⟩)) nt) _ _ hs1)
  have nst:t≠st:=fun z=>by rw [z,hs1] at nt;cases nt
  have nsl:l≠st:=fun z=>by rw [z,hs1] at nl1;cases nl1
  refine ⟨st,_,_,rfl,rfl,hs2,small1000 (by rw [refs_len];omega),?_⟩
  refine q _ l t (fun b o h1 h2 e=>?_) ?_ ?_ (fr1 nl1).1 (fr1 nt).1 ?_ ?_
  ·have e1:upd H g (.lst (gs.map V.str++[V.str d.2.2])) b=some o:=by rw [upd_ne h1];exact e
   rw [upd_ne h2]
   exact (upd_free nl) _ _ ((upd_free nt) _ _ e1)
  ·rw [upd_ne ngs,upd_ne (fr1 nl1).2.symm,upd_ne (fr1 nt).2.symm,upd_same,List.map_append]
   rfl
  ·rw [upd_same,refs_snoc]
  ·rw [upd_ne nsl,upd_same]
  ·rw [upd_ne nst,upd_ne nlt.symm,upd_same]
   rfl
theorem scWkI:FnScope ["self","net","letters","letter"] ["self","net","letters"] (defScope sWkI):=⟨rfl,rfl,rfl,by decide+kernel,rfl,by decide+kernel,by decide+kernel⟩
theorem ok_wkI {C f f1:Addr} {fd fd1:FuncData} (F:Fun K "__init__" "Walk.__init__" sWkI f fd) (WC:WalkC K C) (M_Walk_take_in:Mn K C "take_in" "Walk.take_in" sTake ["self","letter"] f1 fd1) (G_Walk_take_in:FnOk P w K mg base CX0 1 f1 fd1 ["self","letter"] (spTake C)):FnOk P w K mg base CX0 2 f fd ["self","net","letters"] (spWkI C):=by
 have Cl_Walk:=WC.cl
 refine F.ok scWkI (fun vs H Q E h=>?_) (fun cdv A outer s H vs Q E hr h=>?_)
 ·obtain ⟨x,dx,n,lp,rs,ds,rfl,_⟩:=h
  rfl
 ·obtain ⟨x,dx,n,lp,rs,ds,rfl,hx,hlp,tp,few,q⟩:=h
  refine ⟨_,(pss_cons (ps_fld (pv 0) (pv 1) rfl)
   (pss_cons (ps_fld (pv 0) (pe_lst pa_nil) rfl)
   (pss_cons (ps_fld (pv 0) (pe_lst pa_nil) rfl)
   (pss_one (ps_for PassesOwn.never rfl (pi_list (pv 2)) (pg_name (i:=3) scWkI.nd rfl (Or.inl rfl))
    (pss_one (ps_expr (pe_meth (pv 0) Cl_Walk M_Walk_take_in.me G_Walk_take_in (hr.mono (by decide)) M_Walk_take_in.bd .nil pass0 (pa_cons (pv 3) pa_nil))))))))),?_⟩
  refine ⟨_,rfl,_,rfl,x,C,dx,_,rfl,hx,WC.cl,WC.nn,(by show 0 < 1000;decide),?_⟩
  have nlp:lp≠x:=ne_of hlp hx (by intro z;cases z)
  refine ⟨(by show 0≤sizeLine;decide),fun g ng=>?_⟩
  have ngx:g≠x:=fun z=>by rw [z,upd_same] at ng;cases ng
  have ng0:=ng
  rw [upd_ne ngx] at ng0
  refine ⟨_,rfl,x,C,dx,_,rfl,(by rw [upd_ne ngx.symm,upd_same]),WC.cl,WC.ng,(by show 1 < 1000;decide),(by show 0≤sizeLine;decide),fun st nst=>?_⟩
  have nsx:st≠x:=fun z=>by rw [z,upd_same] at nst;cases nst
  rw [upd_ne nsx] at nst
  have nsg:st≠g:=fun z=>by rw [z,upd_same] at nst;cases nst
  rw [upd_ne nsg,upd_ne nsx] at nst
  refine ⟨_,rfl,x,C,dx,_,rfl,(by rw [upd_ne nsx.symm,upd_same]),WC.cl,WC.ns,(by show 2 < 1000;decide),?_⟩
  refine ⟨_,rfl,lp,rfl,⟨_,SqL.of (xs:=refs rs) ?_⟩,?_⟩
  ·rw [upd_ne nlp,upd_ne (ne_of_none hlp nst),upd_ne nlp,upd_ne (ne_of_none hlp ng0),upd_ne nlp]
   exact hlp
  have lrs:=refs_len rs
  have ldr:rs.length=ds.length:=by have:=Paired.length tp;rw [List.length_map] at this;exact this
  refine for_list (K:=K) (a:=lp) (xs:=refs rs) (fun j σ Hj=>∃v3 lls,σ=[some (.ref x),some (.ref n),some (.ref lp),v3]∧(∀b o,b≠x→H b=some o→Hj b=some o)∧Hj x=some (.ins C dx (walkFs n g st))∧Hj g=some (.lst (((ds.take j).map fun d=>d.2.2).map V.str))∧Hj st=some (.lst (refs lls))∧Paired (StepsAt Hj) lls ((ds.take j).map firstS)∧lls.Nodup∧(∀l∈lls,H l=none∧l≠st∧l≠g))
   ⟨none,[],rfl,fun b o nb e=>?_,upd_same,?_,?_,.nil,List.nodup_nil,fun l hl=>absurd hl List.not_mem_nil⟩ (fun j σ Hj _ ⟨_,_,_,h,_⟩=>SqL.of (h _ _ nlp hlp)) ?_ ?_
  ·rw [upd_ne nb,upd_ne (ne_of_none e nst),upd_ne nb,upd_ne (ne_of_none e ng0),upd_ne nb]
   exact e
  ·rw [upd_ne ngx,upd_ne nsg.symm,upd_ne ngx,upd_same]
   rfl
  ·rw [upd_ne nsx,upd_same]
   rfl
  ·rintro j z σ Hj ez ⟨v3,lls,rfl,sj,hxj,hgj,hsj,ej,nd,fr⟩
   unfold refs at ez
   rw [List.getElem?_map] at ez
   obtain ⟨r,er,rfl⟩:=Option.map_eq_some_iff.mp ez
   obtain ⟨y,ey,hy⟩:=Paired.get tp er
   rw [List.getElem?_map] at ey
   obtain ⟨d,ed,rfl⟩:=Option.map_eq_some_iff.mp ey
   have ldj:=(List.getElem?_eq_some_iff.mp ed).1
   have ll:=Paired.length ej
   rw [List.length_map,List.length_take] at ll
   have tk:ds.take (j+1)=ds.take j++[d]:=by
    rw [List.take_add_one,ed]
    rfl
   refine ⟨_,rfl,x,dx,_,rfl,hxj,rfl,_,rfl,x,dx,n,g,st,r,_,lls,d,rfl,hxj,hgj,hsj,nsg.symm,sj _ _ (ne_of hy hx (by intro z;cases z)) hy,(by rw [List.length_map,List.length_take];omega),(by omega),?_⟩
   intro H' l t sb hg' hs' nl nt hl' ht'
   have ngj:∀{o},Hj l=some o→False:=fun {o} e=>by rw [nl] at e;cases e
   have free:∀{b},Hj b=none→H b=none:=fun {b} e=>by
    by_cases hb:b=x
    ·rw [hb,hxj] at e;cases e
    ·cases e2:H b with
     | none=>rfl
     | some o=>rw [sj _ _ hb e2] at e;cases e
   refine ⟨_,lls++[l],rfl,fun b o nb e=>?_,sb _ _ ngx.symm nsx.symm hxj,?_,hs',?_,?_,?_⟩
   ·exact sb _ _ (fun z=>by rw [z,ng0] at e;cases e) (fun z=>by rw [z,nst] at e;cases e) (sj _ _ nb e)
   ·rw [hg',tk]
    simp only [List.map_append,List.map_cons,List.map_nil]
   ·rw [tk,List.map_append]
    refine Paired.snoc ⟨[t],hl',.cons ht' .nil⟩ ?_
    have go:∀{ms:List Addr} {tss:List (List Step)},Paired (StepsAt Hj) ms tss→(∀l∈ms,l≠st∧l≠g)→Paired (StepsAt H') ms tss:=fun {ms tss} p=>by
     induction p with
     | nil=>exact fun _=>.nil
     | cons r t ih=>
      refine fun h=>.cons ?_ (ih fun l hl=>h l (.tail _ hl))
      obtain ⟨ts,h1,h2⟩:=r
      refine ⟨ts,sb _ _ (h _ (.head _)).2 (h _ (.head _)).1 h1,Paired.mapP h2 fun a b e=>sb _ _ (ne_of e hgj (by intro z;cases z)) (ne_of e hsj (by intro z;cases z)) e⟩
    exact go ej fun l hl=>(fr l hl).2
   ·rw [List.nodup_append]
    refine ⟨nd,List.nodup_cons.mpr ⟨List.not_mem_nil,List.nodup_nil⟩,fun a ha b hb=>?_⟩
    rw [List.mem_singleton] at hb
    subst hb
    rintro rfl
    obtain ⟨i,hi,e⟩:=List.getElem_of_mem ha
    obtain ⟨_,_,ts,h1,_⟩:=Paired.get ej (List.getElem?_eq_some_iff.mpr ⟨hi,e⟩)
    exact ngj h1
   ·intro l2 hl2
    rw [List.mem_append,List.mem_singleton] at hl2
    rcases hl2 with h | rfl
    ·exact fr _ h
    ·exact ⟨free nl,fun z=>(by rw [z] at nl;rw [nl] at hsj;cases hsj),fun z=>(by rw [z] at nl;rw [nl] at hgj;cases hgj)⟩
  ·rintro σ Hj ⟨v3,lls,rfl,sj,hxj,hgj,hsj,ej,nd,fr⟩
   rw [lrs,ldr,List.take_length] at hgj ej
   exact q Hj g st lls (fun b o nb e=>sj b o nb e) ⟨⟨dx,hxj⟩,hgj,hsj,ej⟩ ng0 nst nd fr nsg.symm
end
open PySem L2 L3 M1
section
variable {P:Program} {w:World} {K:PySem.W.Frag} {mg:Str→Option Value} {base:Heap}
noncomputable abbrev sRoadM:Stmt:=inClass (top 36) 3
theorem scRoadM:FnScope ["self","number"] ["self","number"] (defScope sRoadM):=⟨rfl,rfl,rfl,by decide+kernel,rfl,by decide+kernel,by decide+kernel⟩
end
end K1
namespace L3
open PySem PySem.Spec PyProof.Rows L2 PySem.W
noncomputable def kRun {α:Type} (lt:Nat→Nat→Bool):KasT α→α
 | .ret a=>a
 | .ask i j k=>kRun lt (k (lt i j))
noncomputable def kB {α:Type} (n:Nat) (P:α→Prop):KasT α→Prop
 | .ret a=>P a
 | .ask i j k=>i < n∧j < n∧∀b,kB n P (k b)
theorem kB_bind {α β:Type} {n:Nat} {P:α→Prop} {R:β→Prop} {f:α→KasT β} (hf:∀a,P a→kB n R (f a)):∀t:KasT α,kB n P t→kB n R (t.bind f)
 | .ret a,h=>hf a h
 | .ask i j k,h=>⟨h.1,h.2.1,fun b=>kB_bind hf (k b) (h.2.2 b)⟩
theorem kB_if {α:Type} {n:Nat} {P:α→Prop} {c:Prop} [Decidable c] {s t:KasT α} (h1:c→kB n P s) (h2:¬c→kB n P t):kB n P (if c then s else t):=by
 by_cases h:c
 ·rw [if_pos h];exact h1 h
 ·rw [if_neg h];exact h2 h
theorem kRun_wp {α:Type} {cmp:Nat→Nat→(Bool→Shared→Prop)→Shared→Prop} {lt:Nat→Nat→Bool} {n:Nat} {P:α→Prop} {Q:α→Shared→Prop} {s:Shared} (hc:∀i j C,i < n→j < n→C (lt i j) s→cmp i j C s):
  ∀t:KasT α,kB n P t→(P (kRun lt t)→Q (kRun lt t) s)→t.kasWp cmp Q s
 | .ret a,p,h=>h p
 | .ask i j k,p,h=>hc i j _ p.1 p.2.1 (kRun_wp hc (k (lt i j)) (p.2.2 _) h)
theorem kRun_has {α:Type} {lt:Nat→Nat→Bool} {n:Nat} {P:α→Prop}:∀t:KasT α,kB n P t→P (kRun lt t)
 | .ret _,p=>p
 | .ask i j k,p=>kRun_has (k (lt i j)) (p.2.2 _)
noncomputable def AB (n:Nat) (p:Array Nat):Prop:=p.Perm (List.toArray (List.range n))
theorem AB.lt {n:Nat} {p:Array Nat} (h:AB n p) {x:Nat} (hx:x∈p):x < n:=by
 have:=h.mem_iff.mp hx
 have:x∈List.range n:=by simpa using this
 exact List.mem_range.mp this
theorem AB.list {n:Nat} {p:Array Nat} (h:AB n p):p.toList.Perm (List.range n):=by
 have:=Array.perm_iff_toList_perm.mp h
 simpa using this
theorem AB.at {n:Nat} {p:Array Nat} (h:AB n p) (h0:0 < n) (k:Nat):p.getD k 0 < n:=by
 by_cases hk:k < p.size
 ·have e:p.getD k 0=p[k]:=by simp [Array.getD,hk]
  rw [e]
  exact h.lt (Array.getElem_mem hk)
 ·have e:p.getD k 0=0:=by simp [Array.getD,hk]
  rw [e]
  exact h0
theorem AB.perm {n:Nat} {p q:Array Nat} (h:AB n p) (e:q.Perm p):AB n q:=Array.Perm.trans e h
theorem AB.rev {n:Nat} {p:Array Nat} (h:AB n p) (i j:Nat):AB n (kas_rev p i j):=h.perm (mirror_perm ..)
theorem AB.bub {n:Nat} {p:Array Nat} (h:AB n p) (i j:Nat):AB n (bubble p i j):=h.perm (bubble_perm ..)
section
variable {n:Nat}
theorem asc_b {p:Array Nat} (h0:0 < n) (h:AB n p):∀f k,kB n (fun _=>True) (kas_asc p f k)
 | 0,_=>trivial
 | f+1,k=>⟨h.at h0 _,h.at h0 _,fun b=>kB_if (fun _=>trivial) fun _=>asc_b h0 h f (k+1)⟩
theorem desc_b (h0:0 < n):∀(f:Nat) (p:Array Nat) (k q:Nat),AB n p→kB n (fun r=>AB n r.1) (kas_desc f p k q)
 | 0,p,k,q,h=>h
 | f+1,p,k,q,h=>⟨h.at h0 _,h.at h0 _,fun b=>kB_if (fun _=>kB_if (fun _=>desc_b h0 f _ _ _ (h.rev _ _)) fun _=>desc_b h0 f _ _ _ h)
   fun _=>⟨h.at h0 _,h.at h0 _,fun b=>kB_if (fun _=>h) fun _=>desc_b h0 f _ _ _ h⟩⟩
theorem tail3_b {p:Array Nat} (h0:0 < n) (h:AB n p) (k m:Nat):kB n (fun r=>AB n r.2) (kas_tail3 k m p):=by
 unfold kas_tail3
 refine kB_bind (P:=fun _=>True) (fun a _=>?_) _ (asc_b h0 (h.rev _ _) _ _)
 exact h.rev _ _
theorem descPart_b {p:Array Nat} (h0:0 < n) (h:AB n p) (k m:Nat):kB n (fun r=>AB n r.2) (kas_descPart k m p):=
 kB_bind (fun r hr=>kB_if (fun _=>tail3_b h0 (AB.rev hr _ _) _ _) fun _=>tail3_b h0 hr _ _) _ (desc_b h0 _ _ _ _ h)
theorem count_b {p:Array Nat} (h0:0 < n) (h:AB n p) (m:Nat):kB n (fun r=>AB n r.2) (kas_count m p):=by
 unfold kas_count
 refine kB_bind (P:=fun _=>True) (fun k _=>?_) _ (asc_b h0 h _ _)
 refine kB_if (fun _=>h) fun _=>kB_if (fun _=>⟨h.at h0 _,h.at h0 _,fun b=>kB_if (fun _=>h) fun _=>descPart_b h0 (h.rev _ _) _ _⟩) fun _=>descPart_b h0 h _ _
theorem place_b {p:Array Nat} (h0:0 < n) (h:AB n p) (k:Nat):∀f l r,kB n (fun _=>True) (kas_place p k f l r)
 | 0,_,_=>trivial
 | f+1,l,r=>kB_if (fun _=>trivial) fun _=>⟨h.at h0 _,h.at h0 _,fun b=>kB_if (fun _=>place_b h0 h k f _ _) fun _=>place_b h0 h k f _ _⟩
theorem bin_b (h0:0 < n):∀(f:Nat) (p:Array Nat) (k:Nat),AB n p→kB n (AB n) (kas_bin f p k)
 | 0,p,k,h=>h
 | f+1,p,k,h=>kB_bind (fun l _=>bin_b h0 f _ _ (h.bub _ _)) _ (place_b h0 h k _ _ _)
theorem sort_b (h0:0 < n):kB n (AB n) (kas_sort n):=by
 have hr:AB n (List.toArray (List.range n)):=Array.Perm.refl _
 unfold kas_sort
 refine kB_bind (P:=fun r=>AB n r.2) (fun r h2=>?_) _ (count_b h0 hr n)
 exact kB_if (fun _=>bin_b h0 _ _ _ h2) fun _=>h2
end
noncomputable def srtIx (lt:Nat→Nat→Bool) (n:Nat):List Nat:=if n < 2 then List.range n else (kRun lt (kas_sort n)).toList
noncomputable def srtL {α:Type} (d:α) (lt:Nat→Nat→Bool) (xs:List α):List α:=(srtIx lt xs.length).map fun i=>xs.getD i d
theorem srtIx_lt {lt:Nat→Nat→Bool} {n i:Nat} (h:i∈srtIx lt n):i < n:=by
 unfold srtIx at h
 split at h
 ·exact List.mem_range.mp h
 ·rename_i h2
  exact AB.lt (kRun_has (lt:=lt) (kas_sort n) (sort_b (by omega))) (by simpa using h)
theorem srtIx_perm (lt:Nat→Nat→Bool) (n:Nat):(srtIx lt n).Perm (List.range n):=by
 unfold srtIx
 split
 ·exact List.Perm.refl _
 ·exact AB.list (kRun_has (lt:=lt) (kas_sort n) (sort_b (by omega)))
theorem srtL_perm {α:Type} (d:α) (lt:Nat→Nat→Bool) (xs:List α):(srtL d lt xs).Perm xs:=by
 have e:xs=(List.range xs.length).map fun i=>xs.getD i d:=by
  apply List.ext_getElem
  ·simp
  ·intro i h1 h2
   simp [List.getD,h1]
 have p:=(srtIx_perm lt xs.length).map fun i=>xs.getD i d
 rw [←e] at p
 exact p
theorem srtL_len {α:Type} (d:α) (lt:Nat→Nat→Bool) (xs:List α):(srtL d lt xs).length=xs.length:=(srtL_perm d lt xs).length_eq
theorem srtL_vals {lt:Nat→Nat→Bool} {xs:List V} {us:List Value} (h:Vals xs us):Vals (srtL .non lt xs) (srtL .none lt us):=by
 unfold srtL
 rw [h.length]
 have:∀is:List Nat,(∀i∈is,i < xs.length)→Vals (is.map fun i=>xs.getD i .non) (is.map fun i=>us.getD i .none):=fun is=>by
  induction is with
  | nil=>intro _;exact .nil
  | cons i r ih=>
   intro hi
   refine .cons ?_ (ih fun j hj=>hi j (.tail _ hj))
   have hlt:i < xs.length:=hi i (.head _)
   have e1:xs[i]?=some xs[i]:=List.getElem?_eq_getElem hlt
   obtain ⟨u,e2,ru⟩:=h.get e1
   show RelV (xs[i]?.getD .non) (us[i]?.getD .none)
   rw [e1,e2]
   exact ru
 exact this _ fun i hi=>by rw [h.length];exact srtIx_lt hi
theorem srtL_few {α:Type} (d:α) (lt:Nat→Nat→Bool) {xs:List α} (h:xs.length < 2):srtL d lt xs=xs:=by
 unfold srtL srtIx
 rw [if_pos h]
 apply List.ext_getElem
 ·simp
 ·intro i h1 h2
  simp [List.getD,h2]
noncomputable def ExtB (a:Addr) (h h':Heap):Prop:=∀b o,b≠a→h.get? b=some o→h'.get? b=some o
section
variable {prog:Program} {w:World} {A:Around} {E:Value→Shared→Prop} {s:Shared} {vs:List Value} {κ:SortKind} {lt:Nat→Nat→Bool}
theorem sort_at {a:Addr} {e:Nat} {R:PySem.Fin→Shared→Prop} (ho:s.heap.get? a=some (seqObj "list" vs.toArray e)) (h64:vs.length < 64)
  (hk:2≤vs.length→∀s1:Shared,ExtB a s.heap s1.heap→∀Q:SortKind→Shared→Prop,Q κ s1→wpAny (model prog w) A (keyKind' vs.toArray) Q (fun _ _=>False) s1)
  (hl:2≤vs.length→∀s1:Shared,ExtB a s.heap s1.heap→∀i j C,i < vs.length→j < vs.length→C (lt i j) s1→kas_ask prog w A κ vs i j C s1)
  (h:∀h' c,ExtB a s.heap h'→h'.get? a=some (seqObj "list" (List.toArray (srtL Value.none lt vs)) c)→R (.done (.ret .none)) {s with heap:=h'}):
  wpAny (model prog w) A (Builtin.«list.sort» ⟨[.ref a],[]⟩) R E s:=by
 have emptied:=get?_update_seq ho fun _=>(#[]:Array Value)
 obtain ⟨e1,ho1⟩:∃k,(s.heap.update a (Obj.mapSeq fun _=>(#[]:Array Value))).get? a=some (seqObj "list" #[] k):=⟨_,emptied⟩
 have x1:ExtB a s.heap (s.heap.update a (Obj.mapSeq fun _=>(#[]:Array Value))):=fun b o hb q=>(Heap.get?_update_ne _ _ _ _ hb).trans q
 have big:∀k,k < 64→k≤sizeLine:=fun k hk=>by rw [sizeLine_eq];omega
 rw [list_sort_plain]
 refine wpAny_bind (listItems_at ho rfl (wpAny_bind (listUpdate_at ho rfl ?_ (by rw [List.size_toArray];exact big _ h64) (Nat.zero_le _))))
 refine wpAny_bind (seqEpoch_at ho1 rfl (wpAny_bind (wpAny_newTuple ?_ (big _ h64))))
 refine wpAny_bind (wpAny_newList (wpAny_holding ?_) (Nat.zero_le _))
 dsimp only
 generalize hH:((s.heap.update a (Obj.mapSeq fun _=>(#[]:Array Value))).push (seqObj "tuple" vs.toArray 0)).push (seqObj "list" #[] 0)=H2
 have ho2:H2.get? a=some (seqObj "list" #[] e1):=by
  rw [←hH]
  exact Heap.get?_push_of_some _ (Heap.get?_push_of_some _ ho1)
 have x2:ExtB a s.heap H2:=fun b o hb q=>by
  rw [←hH]
  exact Heap.get?_push_of_some _ (Heap.get?_push_of_some _ (x1 b o hb q))
 have tail:∀(x:Unit × SortSt) (out:List Value),(arrOf x.2).map (·.2)=out.toArray→failedOf x.2=none→out.length < 64→out=srtL Value.none lt vs→
   wpAny (model prog w) A (do
    let now ←seqEpoch a
    Builtin.List.listUpdate (.ref a) fun _=>(arrOf x.2).map (·.2)
    match failedOf x.2 with
    | some er=>do
     rule "list.sort.comparison-raised"
     throw er
     if (now !=e1)=true then do
      rule "list.sort.modified"
      raiseErrorWords "ValueError" "list modified during sort"
      ret Value.none
     else ret Value.none
    | _=>
     if (now !=e1)=true then do
      rule "list.sort.modified"
      raiseErrorWords "ValueError" "list modified during sort"
      ret Value.none
     else ret Value.none) R E {s with heap:=H2}:=fun x out e2 e3 l64 eo=>by
  refine wpAny_bind (seqEpoch_at ho2 rfl (wpAny_bind (listUpdate_at ho2 rfl ?_ (Nat.zero_le _) ?_)))
  ·rw [e3]
   dsimp only
   rw [if_neg (by simp)]
   obtain ⟨c,hc⟩:∃c,(H2.update a (Obj.mapSeq fun _=>(arrOf x.2).map (·.2))).get? a=some (seqObj "list" ((arrOf x.2).map (·.2)) c):=⟨_,get?_update_seq ho2 fun _=>(arrOf x.2).map (·.2)⟩
   refine wpAny_pure (h _ c (fun b o hb q=>(Heap.get?_update_ne _ _ _ _ hb).trans (x2 b o hb q)) ?_)
   rw [hc,e2,eo]
  ·rw [e2,List.size_toArray]
   have:=big _ l64
   omega
 by_cases h2:(vs.toArray.size < 2)
 ·rw [if_pos h2,if_pos h2]
  have h2':vs.length < 2:=by rw [List.size_toArray] at h2;exact h2
  refine wpAny_bind (wpAny_pure (wpAny_bind (wpAny_pure ?_)));refine tail ((),SortSt.mk' general' (vs.toArray.zip vs.toArray) #[] 7 none) vs ?_ rfl h64 (srtL_few _ _ h2').symm
  show (vs.toArray.zip vs.toArray).map (·.2)=vs.toArray
  apply Array.toList_inj.mp
  simp only [Array.toList_map,Array.toList_zip]
  exact List.map_snd_zip (Nat.le_refl _)
 ·rw [if_neg h2,if_neg h2]
  have h2':2≤vs.length:=by rw [List.size_toArray] at h2;omega
  refine wpAny_bind (wpAny_mono (hk h2' {s with heap:=H2} x2 (fun κ' s'=>κ'=κ∧s'={s with heap:=H2}) ⟨rfl,rfl⟩) ?_ fun _ _ x=>x.elim)
  rintro κ' s' ⟨rfl,rfl⟩
  refine wpAny_bind (wpAny_mono (kat_run (κ:=κ') (Q:=fun st s'=>s'={s with heap:=H2}∧(arrOf st).map (·.2)=List.toArray (srtL Value.none lt vs)∧failedOf st=none∧(srtL Value.none lt vs).length=vs.length)
   (G:=fun p s'=>s'={s with heap:=H2}∧p=kRun lt (kas_sort vs.length)) rfl h2' h64 (fun p st s' a1 a2 a3 a4=>?_) (kRun_wp (fun i j C hi hj hC=>hl h2' _ x2 i j C hi hj hC) _ (sort_b (by omega)) fun _=>⟨rfl,rfl⟩)) ?_ fun _ _ x=>x)
  ·obtain ⟨b1,b2⟩:=a4
   have e:srtL Value.none lt vs=p.toList.map fun i=>vs.getD i Value.none:=by
    unfold srtL srtIx
    rw [if_neg (by omega),b2]
   refine ⟨b1,?_,a3,?_⟩
   ·rw [e]
    exact kat_snds rfl a2
   ·rw [e,List.length_map,Array.length_toList,a1]
  ·rintro ⟨⟨⟩,st⟩ s' ⟨rfl,b2,b3,b4⟩
   exact tail ((),st) _ b2 b3 (by omega) rfl
end
open PySem PySem.Spec PyProof.Rows L2 PySem.W
noncomputable def ExtA (h h':Heap):Prop:=∀b o,h.get? b=some o→h'.get? b=some o
section
variable {prog:Program} {w:World} {A:Around} {E:Value→Shared→Prop} {s:Shared} {vs:List Value} {κ:SortKind} {lt:Nat→Nat→Bool}
theorem sorted_at {l:Addr} {Q:Value→Shared→Prop} (hl:s.heap.IsList l vs.toArray) (h64:vs.length < 64)
  (hk:2≤vs.length→∀s1:Shared,ExtA s.heap s1.heap→∀Q:SortKind→Shared→Prop,Q κ s1→wpAny (model prog w) A.in1.in1 (keyKind' vs.toArray) Q (fun _ _=>False) s1)
  (ha:2≤vs.length→∀s1:Shared,ExtA s.heap s1.heap→∀i j C,i < vs.length→j < vs.length→C (lt i j) s1→kas_ask prog w A.in1.in1 κ vs i j C s1)
  (h:∀D h' c,s.heap.objs.size≤D→ExtA s.heap h'→h'.get? D=some (seqObj "list" (List.toArray (srtL Value.none lt vs)) c)→Q (.ref D) {s with heap:=h'}):
  wpAny (model prog w) A (call (.builtin "sorted") ([.ref l]:List Value)) Q E s:=by
 have big:vs.length≤sizeLine:=by rw [sizeLine_eq];omega
 refine Calls.call_function_entry kind_sorted plain_sorted entry_sorted (args_sorted1 (.ref l)) ?_;unfold Builtin.«sorted»
 refine wpAny_bind (m:=checkCount "sorted" 1 1 _) (wpAny_pure (wpAny_bind (collect_list hl ?_ big)))
 refine wpAny_bind (wpAny_newList ?_ big)
 generalize hG:(s.heap.push (seqObj "list" #[] 0)).update s.heap.objs.size (Obj.mapSeq (·++vs.toArray))=G
 have gs:G.objs.size=s.heap.objs.size+1:=by rw [←hG,Heap.size_update,size_push']
 have x1:ExtA s.heap G:=fun b o q=>by
  have hb:=Nat.ne_of_lt (Heap.lt_size q)
  rw [←hG,Heap.get?_update_ne _ _ _ _ hb]
  exact Heap.get?_push_of_some _ q
 show wpAny _ _ _ _ _ {s with heap:=G.push (seqObj "list" vs.toArray 0)}
 have hD:(G.push (seqObj "list" vs.toArray 0)).get? G.objs.size=some (seqObj "list" vs.toArray 0):=Heap.get?_push_size _ rfl
 have x2:ExtA s.heap (G.push (seqObj "list" vs.toArray 0)):=fun b o q=>Heap.get?_push_of_some _ (x1 b o q)
 have x3:∀h',ExtB G.objs.size (G.push (seqObj "list" vs.toArray 0)) h'→ExtA s.heap h':=fun h' x b o q=>x b o (Nat.ne_of_lt (by rw [gs];exact Nat.lt_succ_of_lt (Heap.lt_size q))) (x2 b o q)
 refine wpAny_bind (wpAny_holding (wpAny_call_entry slot_list_sort ⟨_,hD,rfl⟩ entry_list_sort ?_ (args_list_sort _)))
 refine sort_at (s:={s with heap:=G.push (seqObj "list" vs.toArray 0)}) (κ:=κ) (lt:=lt) hD h64 (fun h2 s1 x=>hk h2 s1 (x3 _ x)) (fun h2 s1 x=>ha h2 s1 (x3 _ x)) fun h' c x hc=>?_
 exact ⟨_,rfl,wpAny_pure ⟨_,rfl,h _ h' c (by rw [gs];exact Nat.le_succ _) (x3 _ x) hc⟩⟩
end
noncomputable def lexLt:List Key→List Key→Bool
 | .inl a::r,.inl b::q=>if a=b then lexLt r q else decide (a < b)
 | .inr a::r,.inr b::q=>if a=b then lexLt r q else decide (a.cps.toList < b.cps.toList)
 | _,_=>false
noncomputable def kSh:List Key→List Bool:=List.map fun k=>match k with
 | .inl _=>true
 | .inr _=>false
theorem eqv_int' (a b:Int):PyData.eqv (.int a) (.int b)=decide (a=b):=by
 by_cases h:a=b
 ·subst h;rw [decide_eq_true rfl];simp [PyData.eqv]
 ·rw [decide_eq_false h];simp [PyData.eqv,h]
theorem eqv_str' (x y:Str):PyData.eqv (.str x) (.str y)=decide (x=y):=by
 by_cases h:x=y
 ·subst h;rw [decide_eq_true rfl];simp [PyData.eqv]
 ·rw [decide_eq_false h];simp [PyData.eqv,h]
section
variable {prog:Program} {w:World} {A:Around} {E:Value→Shared→Prop} {s:Shared}
theorem lex_keys {Q:Bool→Shared→Prop}:∀(d e:List Key) (us ws:List Value) (i:Nat),Vals (d.map kV) us→Vals (e.map kV) ws→kSh d=kSh e→Q (lexLt d e) s→KatLex prog w A true false Q (us.zip ws) i s
 | [],e,us,ws,i,v1,v2,hs,h=>by
  cases v1
  have e0:e=[]:=by
   cases e with
   | nil=>rfl
   | cons _ _=>cases hs
  subst e0
  exact kat_nil h
 | .inl a::r,[],_,_,_,_,_,hs,_=>by cases hs
 | .inr a::r,[],_,_,_,_,_,hs,_=>by cases hs
 | .inl a::r,.inr b::q,_,_,_,_,_,hs,_=>by simp [kSh] at hs
 | .inr a::r,.inl b::q,_,_,_,_,_,hs,_=>by simp [kSh] at hs
 | .inl a::r,.inl b::q,_,_,i,.cons r1 t1,.cons r2 t2,hs,h=>by
  obtain ⟨t,rfl⟩:=r1
  obtain ⟨u,rfl⟩:=r2
  have hs':kSh r=kSh q:=by simpa [kSh] using hs
  unfold lexLt at h
  refine kat_cons (keq_flat (d:=.int a) (e:=.int b) (fun _=>.int a t) (fun _=>.int b u) prog w _ _ ?_)
  rw [eqv_int']
  by_cases e:a=b
  ·rw [if_pos e] at h
   rw [decide_eq_true e]
   exact kat_yes (lex_keys r q _ _ _ t1 t2 hs' h)
  ·rw [if_neg e] at h
   rw [decide_eq_false e]
   refine kat_no ?_
   cases i with
   | zero=>exact oneLt_int h
   | succ i=>exact kat_one _ _ (lt_int h)
 | .inr a::r,.inr b::q,_,_,i,.cons r1 t1,.cons r2 t2,hs,h=>by
  obtain ⟨t,rfl⟩:=r1
  obtain ⟨u,rfl⟩:=r2
  have hs':kSh r=kSh q:=by simpa [kSh] using hs
  unfold lexLt at h
  refine kat_cons (keq_flat (d:=.str a) (e:=.str b) (fun _=>.str a t) (fun _=>.str b u) prog w _ _ ?_)
  rw [eqv_str']
  by_cases e:a=b
  ·rw [if_pos e] at h
   rw [decide_eq_true e]
   exact kat_yes (lex_keys r q _ _ _ t1 t2 hs' h)
  ·rw [if_neg e] at h
   rw [decide_eq_false e]
   refine kat_no ?_
   cases i with
   | zero=>exact oneLt_str h
   | succ i=>exact kat_one _ _ (lt_str h)
end
noncomputable def ltK (ds:List (List Key)) (i j:Nat):Bool:=lexLt (ds.getD i []) (ds.getD j [])
theorem vals_refs:∀{ts:List Addr} {us:List Value},Vals (ts.map V.ref) us→us=ts.map Value.ref
 | [],_,.nil=>rfl
 | t::ts,_,.cons r q=>by
  cases r
  rw [vals_refs q]
  rfl
noncomputable def isI:Key→Bool
 | .inl _=>true
 | .inr _=>false
noncomputable def tyK (b:Bool):Value:=if b=true then .type "int" else .type "str"
theorem kat_of {P:Program} {w:World} {H:Hp} {h h1:Heap} (ok:HOk P w H h) (x:ExtA h h1) {b:Bool}:∀{ts:List Addr} {ds:List (List Key)},Paired (fun r d=>H r=some (.tup (d.map kV))) ts ds→(∀d∈ds,∃r,kSh d=b::r)→
  ∃fs,KatTups h1 (ts.map Value.ref) fs∧fs.length=ts.length∧∀v∈fs,∃k:Key,isI k=b∧RelV (kV k) v
 | [],[],_,_=>⟨[],KatTups.nil,rfl,fun _ h=>absurd h List.not_mem_nil⟩
 | t::ts,d::ds,.cons r q,hd=>by
  obtain ⟨fs,k1,k2,k3⟩:=kat_of ok x q fun d' h'=>hd d' (.tail _ h')
  obtain ⟨sr,hs⟩:=hd d (.head _)
  obtain ⟨_,its,rv,o,ho,hc,n,hdat⟩:=ok t _ r
  cases d with
  | nil=>cases hs
  | cons k d=>
   cases rv with
   | cons rk rr=>
    rename_i f fr
    refine ⟨f::fs,KatTups.cons (x _ _ ho) hc hdat (by simp) k1,by simp [k2],fun v hv=>?_⟩
    rcases List.mem_cons.mp hv with rfl | hv2
    ·refine ⟨k,?_,rk⟩
     have:kSh (k::d)=isI k::kSh d:=by cases k <;> rfl
     rw [this] at hs
     exact (List.cons.inj hs).1
    ·exact k3 v hv2
 | [],d::ds,h,_=>nomatch h
 | t::ts,[],h,_=>nomatch h
section
variable {X:Cx}
theorem bt_sorted:bootBuiltins "sorted"=some (.builtin "sorted"):=by decide+kernel
theorem call_sortedT:CallR X (.builtin "sorted") (fun xs H Q=>∃(p:Addr) (ts:List Addr) (ds:List (List Key)) (b:Bool) (sh:List Bool),xs=[.ref p]∧SqL X.K H p (ts.map V.ref)∧Paired (fun r d=>H r=some (.tup (d.map kV))) ts ds∧ts.length < 64∧(∀d∈ds,kSh d=b::sh)∧
  ∀l,H l=none→Q (.ref l) (upd H l (.lst (srtL .non (ltK ds) (ts.map V.ref))))):=by
 intro pins s σ H xs us Q I r h
 obtain ⟨p,ts,ds,b,sh,rfl,hq,tp,h64,hsh,q⟩:=h
 obtain ⟨u,rfl,ru⟩:=vals1 r
 cases ru
 obtain ⟨its,rv,pl,hz⟩:=I.list hq
 have hlen:=rv.length
 rw [List.length_map] at hlen
 obtain rfl:=vals_refs rv
 have dlen:ts.length=ds.length:=Paired.length tp
 have at_:∀i,i < ts.length→∃d its,(ts.map Value.ref).getD i Value.none=.ref ts[i]!∧ds.getD i []=d∧kSh d=b::sh∧Vals (d.map kV) its∧IsTup s.heap ts[i]! its.toArray:=fun i hi=>by
  have e1:ts[i]?=some ts[i]:=List.getElem?_eq_getElem hi
  have e2:ds[i]?=some ds[i]:=List.getElem?_eq_getElem (by omega)
  have e3:ts[i]! =ts[i]:=by simp [hi]
  have hp:H ts[i]=some (.tup (ds[i].map kV)):=by
   have:∀{l:List Addr} {m:List (List Key)} {k:Nat} {x:Addr} {y:List Key},Paired (fun r d=>H r=some (.tup (d.map kV))) l m→l[k]?=some x→m[k]?=some y→H x=some (.tup (y.map kV)):=fun {l m k x y} P=>by
    induction P generalizing k with
    | nil=>intro h;simp at h
    | cons a t ih=>
     cases k with
     | zero=>intro h1 h2;simp at h1 h2;subst h1;subst h2;exact a
     | succ k=>intro h1 h2;simp at h1 h2;exact ih h1 h2
   exact this tp e1 e2
  obtain ⟨_,its,v1,t1⟩:=I.hok _ _ hp
  refine ⟨ds[i],its,?_,?_,hsh _ (List.getElem_mem _),v1,?_⟩
  ·rw [List.getD,List.getElem?_map,e1,e3];rfl
  ·rw [List.getD,e2];rfl
  ·rw [e3];exact t1
 refine sorted_at (κ:=tuples' true) (lt:=ltK ds) pl.isList (by rw [List.length_map];exact h64) (fun h2 s1 x Q' hQ=>?_) (fun h2 s1 x i j C hi hj hC=>?_) fun D h' c hle x hc=>?_
 ·obtain ⟨fs,k1,k2,k3⟩:=kat_of I.hok x tp fun d hd=>⟨sh,hsh d hd⟩
  rw [List.length_map] at h2
  refine kat_kind (T:=tyK b) k1 (by omega) (fun v hv=>?_) (by cases b <;> decide+kernel) ?_
  ·obtain ⟨k,ek,rk⟩:=k3 v hv
   subst ek
   cases k with
   | inl i=>obtain ⟨t,rfl⟩:=rk;exact Looks.of_pure rfl
   | inr i=>obtain ⟨t,rfl⟩:=rk;exact Looks.of_pure rfl
  ·have e:(tyK b !=Value.type "tuple")=true:=by cases b <;> decide+kernel
   rw [e]
   exact hQ
 ·rw [List.length_map] at hi hj
  obtain ⟨d,its,a1,a2,a3,a4,o,ho,_,n,hdat⟩:=at_ i hi
  obtain ⟨d',its',b1,b2,b3,b4,o',ho',_,n',hdat'⟩:=at_ j hj
  unfold kas_ask
  rw [a1,b1]
  have l1:=a4.length
  have l2:=b4.length
  rw [List.length_map] at l1 l2
  have l3:d.length=d'.length:=by
   have e:=congrArg List.length (a3.trans b3.symm)
   simpa [kSh] using e
  refine kat_lt (b:=true) (x _ _ ho) hdat (x _ _ ho') hdat' ?_
  rw [decide_eq_false (by rw [List.size_toArray,List.size_toArray];omega)]
  refine lex_keys d d' its its' 0 a4 b4 (a3.trans b3.symm) ?_
  have:ltK ds i j=lexLt d d':=by unfold ltK;rw [a2,b2]
  rw [←this]
  exact hC
 ·refine ⟨.ref D,_,I.laid (a:=D) (o:=.lst (srtL .non (ltK ds) (ts.map V.ref))) (t':=s.toks) (fun b o q=>x b o q) hle ?_,rfl,q D (I.hok.fresh hle)⟩
  refine ⟨?_,_,c,srtL_vals rv,hc⟩
  rw [srtL_len,List.length_map,sizeLine_eq]
  omega
end
open PySem PySem.Spec PyProof.Rows L2
noncomputable def DEs (h:Heap) (d:Addr) (es:Array DictEntry) (ep:Nat):Prop:=∃o,h.get? d=some o∧o.ExactDict∧o.data=.dict es ep
section
variable {X:Cx} {pins:List (Addr × Obj)} {σ:L2.St} {H:Hp} {s:Shared} {a:Addr} {u u':HO}
theorem inv_re (I:Inv X pins σ H s) (ha:H a=some u) (n1:∀xs,u≠.tup xs) (n2:∀y,u≠.own y) (new:ObjOk X.prog X.w (upd H a u') s.heap a u') (f1:∀xs,X.H₀ a≠some (.tup xs)) (f2:∀o v,X.H₀ a≠some (.frz o v)) (f3:∀ps,X.H₀ a≠some (.tbl ps)):Inv X pins σ (upd H a u') s:=by
 have other:∀{b:Addr},H b=none→upd H a u' b=none:=fun {b} e=>by
  rw [upd_ne (fun z=>by rw [z,ha] at e;cases e)]
  exact e
 refine ⟨I.ok,I.os,I.bare,⟨I.base.keep,I.base.slot,fun b o e n hx=>other (I.base.free b o e n hx),I.base.there,fun b xs e=>?_,fun b o v e=>?_,fun b ps e=>?_⟩,I.loc,I.cell,other I.free,fun x c e=>other (I.freeC x c e),fun p hp=>?_,fun b o e=>?_,I.len⟩
 ·rw [upd_ne (fun z=>by rw [z] at e;exact f1 xs e)];exact I.base.tups b xs e
 ·rw [upd_ne (fun z=>by rw [z] at e;exact f2 o v e)];exact I.base.frzs b o v e
 ·rw [upd_ne (fun z=>by rw [z] at e;exact f3 ps e)];exact I.base.tbls b ps e
 ·obtain ⟨h1,h2,h3,h4,h5⟩:=I.pin p hp
  exact ⟨h1,other h2,h3,h4,h5⟩
 ·by_cases hb:b=a
  ·subst hb
   rw [upd_same] at e
   cases e
   exact new
  ·rw [upd_ne hb] at e
   refine (I.hok b o e).stay (fun c v _ q=>q) (fun c q=>?_) fun c xs q=>?_
   ·rw [upd_ne (fun z=>by rw [z,ha] at q;exact n2 _ (Option.some.inj q))];exact q
   ·rw [upd_ne (fun z=>by rw [z,ha] at q;exact n1 _ (Option.some.inj q))];exact q
end
open PySem PySem.Spec PyProof.Rows L2
section
variable {prog:Program} {w:World} {A:Around} {E:Value→Shared→Prop} {s:Shared} {it d:Addr} {i ep:Nat} {es:Array DictEntry}
theorem nx_key {Q:Option Value→Shared→Prop} (hit:s.heap.IsKeyIter it d i es.size ep) (hd:DEs s.heap d es ep) (hi:i < es.size)
  (hQ:∀h',h'.IsKeyIter it d (i+1) es.size ep→Heap.SameBut it s.heap h'→Q (some es[i].key) {s with heap:=h'}):wpAny (model prog w) A (pyNext (.ref it)) Q E s:=by
 obtain ⟨oi,hoi,hci,hdi⟩:=id hit
 obtain ⟨o,ho,_,hdat⟩:=hd
 have T0:=hit.typeIs
 have noNone:¬((Value.ref d==Value.none)=true):=Bool.false_ne_true
 have own:Builtin.Dict_items.ownsTuple "dict_keyiterator"=false:=by decide
 unfold pyNext
 refine wpAny_bind (wpAny_attempt (wpAny_callSpecial?_slot (name:=Str.ofString "__next__") T0 F.slot_dict_keyiterator_next (wpAny_call_entry F.slot_dict_keyiterator_next T0 F.entry_dict_keyiterator_next ?_ (F.args_dict_keyiterator_next_1 _))))
 refine wpAny_bind (wpAny_pure (wpAny_bind (wpAny_bind ?_)))
 first
 | refine wpAny_bind (wpAny_typeNameOfWhole_keyiter T0 (wpAny_pure (wpAny_bind (wpAny_fieldsOf hoi hdi ?_))))
 | refine wpAny_bind (wpAny_typeNameOf_keyiter T0 (wpAny_pure (wpAny_bind (wpAny_fieldsOf hoi hdi ?_))))
 simp only [own,Bool.false_eq_true,if_false];change wpAny _ _ (ite ((Value.ref d==Value.none)=true) _ _) _ _ s
 rw [if_neg noNone]
 refine wpAny_bind (wpAny_pure (wpAny_bind (wpAny_dictEntries ho hdat ?_)))
 rw [if_neg (by simp)]
 refine wpAny_bind (wpAny_pure (wpAny_bind (wpAny_dictEpoch ho hdat ?_)))
 rw [if_neg (by simp)]
 refine wpAny_pure ?_
 simp only [show ¬((i:Int) < 0) from by omega,if_false,Int.toNat_natCast,Array.getElem?_eq_getElem hi]
 refine wpAny_bind ?_
 first
 | refine wpAny_bind (wpAny_typeNameOfWhole_keyiter T0 (wpAny_pure (wpAny_bind (wpAny_isOneOf_keyiter T0 ?_))))
 | refine wpAny_bind (wpAny_typeNameOf_keyiter T0 (wpAny_pure (wpAny_bind (wpAny_isOneOf_keyiter T0 ?_))))
 change wpAny _ _ (setField (.ref it) 1 (rawInt ((i:Int)+1)) >>=_) _ _ s
 refine wpAny_bind (wpAny_setField hoi hdi (by simp) ?_)
 have next:(s.heap.update it (Obj.mapFields (·.setIfInBounds 1 (rawInt ((i:Int)+1))))).IsKeyIter it d (i+1) es.size ep:=
  ⟨_,Heap.get?_update_self _ hoi (Obj.isFreed_of_fields (Obj.data_mapFields hdi _)),(Obj.cls_mapFields ..).trans hci,by simp [Obj.data_mapFields hdi,rawInt]⟩
 refine wpAny_bind (wpAny_holding (wpAny_bind (wpAny_isOneOf_keyiter (s:={s with heap:=s.heap.update it (Obj.mapFields (·.setIfInBounds 1 (rawInt ((i:Int)+1))))}) next.typeIs ?_)))
 exact wpAny_pure (wpAny_pure ⟨_,rfl,wpAny_pure (hQ _ next (Heap.SameBut.update ..))⟩)
theorem nx_kend {Q:Option Value→Shared→Prop} (hh:A.handled=none) (hit:s.heap.IsKeyIter it d i es.size ep) (hd:DEs s.heap d es ep) (hi:es.size≤i)
  (hQ:∀h',Heap.ExtBut it s.heap h'→Q none {s with heap:=h'}):
  wpAny (model prog w) A (pyNext (Value.ref it)) Q E s:=by
 obtain ⟨oi,hoi,hci,hdi⟩:=id hit
 obtain ⟨o,ho,_,hdat⟩:=hd
 have T0:=hit.typeIs
 have noNone:¬((Value.ref d==Value.none)=true):=Bool.false_ne_true
 have own:Builtin.Dict_items.ownsTuple "dict_keyiterator"=false:=by decide
 unfold pyNext
 refine wpAny_bind (wpAny_attempt (wpAny_callSpecial?_slot (name:=Str.ofString "__next__") T0 F.slot_dict_keyiterator_next (wpAny_call_entry F.slot_dict_keyiterator_next T0 F.entry_dict_keyiterator_next ?_ (F.args_dict_keyiterator_next_1 _))))
 refine wpAny_bind (wpAny_pure (wpAny_bind (wpAny_bind ?_)))
 first
 | refine wpAny_bind (wpAny_typeNameOfWhole_keyiter T0 (wpAny_pure (wpAny_bind (wpAny_fieldsOf hoi hdi ?_))))
 | refine wpAny_bind (wpAny_typeNameOf_keyiter T0 (wpAny_pure (wpAny_bind (wpAny_fieldsOf hoi hdi ?_))))
 simp only [own,Bool.false_eq_true,if_false];change wpAny _ _ (ite ((Value.ref d==Value.none)=true) _ _) _ _ s
 rw [if_neg noNone]
 refine wpAny_bind (wpAny_pure (wpAny_bind (wpAny_dictEntries ho hdat ?_)))
 rw [if_neg (by simp)]
 refine wpAny_bind (wpAny_pure (wpAny_bind (wpAny_dictEpoch ho hdat ?_)))
 rw [if_neg (by simp)]
 refine wpAny_pure ?_
 simp only [show ¬((i:Int) < 0) from by omega,if_false,Int.toNat_natCast,Array.getElem?_eq_none hi]
 refine wpAny_bind ?_
 first
 | refine wpAny_bind (wpAny_typeNameOfWhole_keyiter T0 (wpAny_pure ?_))
 | refine wpAny_bind (wpAny_typeNameOf_keyiter T0 (wpAny_pure ?_))
 change wpAny _ _ (setField (.ref it) 0 Value.none >>=_) _ _ s;refine wpAny_bind (wpAny_setField hoi hdi (by simp) ?_)
 change wpAny _ _ (newExc (.type "StopIteration") [] >>=_) _ _ _;refine wpAny_bind ?_
 simp only [newExc,newTuple];refine wpAny_bind (wpAny_newObj_type ?_ (by size_fits))
 refine wpAny_bind (m:=firstArgMember _ _) (wpAny_of_eq (a:=Value.none) (by first | rfl | (simp only [firstArgMember];rfl)) (wpAny_newObj_type ?_ (by size_fits)))
 have hin:A.in1.handled=none:=hh
 simp only [raiseNew];refine wpAny_bind (wpAny_handled ?_)
 rw [hin];refine wpAny_bind (wpAny_pure (wpAny_throw ?_))
 refine wpAny_bind (wpAny_isInstance (b:=true) (T:="StopIteration") ⟨_,Heap.get?_push_size _ rfl,rfl⟩ isSubtype_stop ?_)
 exact wpAny_pure (hQ _ (Heap.ExtBut.push (Heap.ExtBut.push (Heap.SameBut.extBut (Heap.SameBut.update ..)) _) _))
theorem it_keys {Q:Value→Shared→Prop} (hs:(d==sysModules)=false) (hd:DEs s.heap d es ep)
  (hQ:Q (.ref s.heap.objs.size) {s with heap:=s.heap.push {cls:=.type "dict_keyiterator",data:=.fields #[.ref d,.int 0 0,.int es.size 0,.int ep 0]}}):wpAny (model prog w) A (pyIter (.ref d)) Q E s:=by
 obtain ⟨o,ho,hx,hdat⟩:=hd
 have T0:s.TypeIs (.ref d) "dict":=⟨o,ho,hx.1⟩
 refine wpAny_pyIter_slot T0 F.slot_dict_iter (wpAny_call_entry F.slot_dict_iter T0 F.entry_dict_iter ?_ (F.args_dict_iter_1 _))
 unfold Builtin.«dict.__iter__» Builtin.Dict.dictSlotNone;refine wpAny_bind (wpAny_bind (wpAny_notOrdered_dict T0 ?_))
 change wpAny _ _ (pure (Value.ref d)) _ _ s;refine wpAny_pure ?_
 change wpAny _ _ (Builtin.Dict.showsAll d >>=_) _ _ s;unfold Builtin.Dict.showsAll
 rw [if_neg (by rw [hs];exact Bool.false_ne_true)]
 refine wpAny_bind (wpAny_pure (wpAny_bind (wpAny_dictEntries ho hdat (wpAny_bind (wpAny_dictEpoch ho hdat ?_)))))
 refine wpAny_bind (wpAny_newObj_type ?_)
 refine wpAny_pure ⟨_,rfl,"dict_keyiterator",_,⟨_,Heap.get?_push_size _ rfl,rfl⟩,F.slot_dict_keyiterator_next.lookup,?_⟩
 simpa [rawInt] using hQ
end
open PySem PySem.Spec PyProof.Rows L2
section
variable {X:Cx} {o e f:Expr} {td ty tx:TE} {apos cpos:Pos}
noncomputable def tSDefK (td ty tx:TE):TE:=fun σ H Q=>td σ H fun x H1=>∃a,x=.ref a∧IsD H1 a∧ty σ H1 fun y H2=>tx σ H2 fun z H3=>∃kvs k,y=kV k∧H3 a=some (.dK kvs)∧kvs.length < sizeLine∧
 (∀v,valV kvs k=some v→Q v H3)∧(valV kvs k=none→Q z (upd H3 a (.dK (putK kvs k z))))
theorem pe_sdefK (ho:PE X o td) (he:PE X e ty) (hf:PE X f tx) (m:M2 X o "setdefault" apos e f cpos):PE X (.Call (.Attribute o "setdefault" apos) [e,f] [] cpos) (tSDefK td ty tx):=by
 intro pins s σ H Q I h
 refine wpAny_Call_method m.base m.few m.line PySem.F.plainAttrs_dict PySem.F.slot_dict_setdefault PySem.F.type_dict_setdefault (thn (ho pins s σ H _ I h) fun u s1 ⟨x,H1,I1,rx,a,ex,d,q1⟩=>?_)
 subst ex
 obtain rfl:u=Value.ref a:=rx
 obtain ⟨t1,t2,_⟩:=isD_at I1 d
 refine ⟨t1,t2,?_⟩
 rw [m.trees]
 refine Calls.callWith_builtin rfl (Calls.evalArgs_plain (Calls.spliced_cons (thn (he pins s1 σ H1 _ I1 q1) fun iv s2 ⟨y,H2,I2,ry,q2⟩=>Calls.spliced_cons (thn (hf pins s2 σ H2 _ I2 q2) fun fv s3 ⟨z,H3,I3,rz,kvs,k,ey,ea,lk,q,q'⟩=>Calls.spliced_nil ?_))))
 subst ey
 obtain ⟨zl,hs,vs,rel,dd⟩:=dk_of I3.hok ea
 have hz:vs.length≤sizeLine:=by rw [←rel.length];exact zl
 have r0:=rel.val k
 refine call_meetsIn PySem.F.slot_dict_setdefault dd.typeIs PySem.F.entry_dict_setdefault (PySem.F.args_dict_setdefault_3 _ _ _) (kt_meets_setdefault (mixKind X.prog X.w) a (kV_is ry) hs fv) ⟨vs,dd,hz,fun v hv=>?_,fun hn h' dd' hsb=>?_⟩
 ·rw [hv] at r0
  cases ev:valV kvs k with
  | none=>rw [ev] at r0;exact r0.elim
  | some v1=>
   rw [ev] at r0
   exact ⟨v1,H3,I3.tok _,r0,q v1 ev⟩
 ·have v0:valV kvs k=none:=by
   rw [hn] at r0
   cases ev:valV kvs k with
   | none=>rfl
   | some v=>rw [ev] at r0;exact r0.elim
  have hl:(putK kvs k z).length≤sizeLine:=by have:=length_putK kvs k z;omega
  have he2:∃q,h'.get? a=some q:=let ⟨q,_,_,hq,_⟩:=dd';⟨q,hq⟩
  exact ⟨z,_,d_write (ob:=.dK (putK kvs k z)) I3 (by rw [ea];exact True.intro) hsb he2 (dk_new hl hs (rel.put k rz) dd'),rz,q' v0⟩
end
open PySem PySem.Spec PyProof.Rows L2 PySem.W
section
variable {prog:Program} {w:World} {A:Around} {E:Value→Shared→Prop} {s:Shared} {d:Addr} {ep:Nat} {es:Array DictEntry}
theorem DEs.lt {h:Heap} (x:DEs h d es ep):d < h.objs.size:=let ⟨_,ho,_⟩:=x;Heap.lt_size ho
theorem DEs.at' {h h':Heap} (x:DEs h d es ep) (k:∀o,h.get? d=some o→h'.get? d=some o):DEs h' d es ep:=let ⟨o,ho,r⟩:=x;⟨o,k o ho,r⟩
theorem walks_keys (hh:A.handled=none) (I:Addr) (hne:d≠I):Walks prog w A I [I,d] [I] es.size (fun i v=>∃e,es[i]?=some e∧v=e.key) (fun i h=>h.IsKeyIter I d i es.size ep∧DEs h d es ep) where
 sub:=fun b hb=>by simp at hb;simp [hb]
 frame:=fun _ _ _ st hk=>⟨st.1.at fun o e=>hk I (by simp) o e,st.2.at' fun o e=>hk d (by simp) o e⟩
 item:=fun i s Q E hi st hQ=>by
  refine nx_key st.1 st.2 hi fun h' st' sb=>hQ _ h' s.toks ⟨es[i],by simp [hi],rfl⟩ ⟨st',st.2.at' fun o e=>(sb.2 d hne).trans e⟩ fun b o hb e=>(sb.2 b (fun z=>hb (by simp [z]))).trans e
 done:=fun s Q E st hQ=>nx_kend hh st.1 st.2 (Nat.le_refl _) fun h' eb=>hQ h' s.toks fun b o hb e=>eb b o (fun z=>hb (by simp [z])) e
 self:=fun _ _ _ _ st hQ=>wpAny_pyIter_keyiter st.1 hQ
theorem src_keys (lo:(d==sysModules)=false):KdlSrc prog w "dict" d d es.size (fun i v=>∃e,es[i]?=some e∧v=e.key) (fun h=>DEs h d es ep) where
 type:=fun _ hm=>let ⟨o,ho,hx,_⟩:=hm;⟨o,ho,hx.1⟩
 there:=fun _ hm=>⟨hm.lt,hm.lt⟩
 keep:=fun _ _ hm hk=>hm.at' fun o e=>hk d (.inl rfl) o e
 notList:=by decide
 notTuple:=by decide
 hint:=fun _ _ _ _ hm hq=>kdl_hint_dict (let ⟨o,ho,hx,_⟩:=hm;⟨o,ho,hx.1⟩) hq
 iter:=fun _ s hh hm=>⟨_,_,(fun _ _ hq=>it_keys lo hm hq),walks_keys hh _ (Nat.ne_of_lt hm.lt),⟨⟨_,Heap.get?_push_size _ rfl,rfl,rfl⟩,hm.at' fun o e=>Heap.get?_push_of_some _ e⟩⟩
theorem sorted_src {vs:List Value} {κ:SortKind} {lt:Nat→Nat→Bool} {Q:Value→Shared→Prop} (lo:(d==sysModules)=false) (hh:A.handled=none) (hm:DEs s.heap d es ep) (hv:vs=es.toList.map (·.key)) (h64:vs.length < 64)
  (hk:2≤vs.length→∀s1:Shared,ExtA s.heap s1.heap→∀Q:SortKind→Shared→Prop,Q κ s1→wpAny (model prog w) A.in1.in1 (keyKind' vs.toArray) Q (fun _ _=>False) s1)
  (ha:2≤vs.length→∀s1:Shared,ExtA s.heap s1.heap→∀i j C,i < vs.length→j < vs.length→C (lt i j) s1→kas_ask prog w A.in1.in1 κ vs i j C s1)
  (h:∀h1 D h' t c,ExtA s.heap h1→h1.objs.size≤D→ExtA h1 h'→h'.get? D=some (seqObj "list" (List.toArray (srtL Value.none lt vs)) c)→Q (.ref D) {s with heap:=h',toks:=t}):
  wpAny (model prog w) A (call (.builtin "sorted") ([.ref d]:List Value)) Q E s:=by
 have big:vs.length≤sizeLine:=by rw [sizeLine_eq];omega
 have hes:es.size=vs.length:=by rw [hv,List.length_map,Array.length_toList]
 refine Calls.call_function_entry kind_sorted plain_sorted entry_sorted (args_sorted1 (.ref d)) ?_;unfold Builtin.«sorted»
 refine wpAny_bind (m:=checkCount "sorted" 1 1 _) (wpAny_pure ?_)
 refine wpAny_bind (kdu_collect (A:=A.in1) (src_keys (ep:=ep) (es:=es) lo) hh hm (by rw [hes];exact big) fun h1 tk acc x1 hacc=>?_)
 have ea:acc.toList=vs:=by
  apply List.ext_getElem?
  intro j
  rw [hv,List.getElem?_map]
  by_cases hj:j < es.size
  ·have hja:j < acc.size:=by rw [hacc.1];exact hj
   obtain ⟨e,e1,e2⟩:=hacc.2 j acc[j] (by simp [hja])
   rw [Array.getElem?_toList,Array.getElem?_toList,e1,Array.getElem?_eq_getElem hja]
   exact congrArg some e2
  ·rw [Array.getElem?_toList,Array.getElem?_toList,Array.getElem?_eq_none (by rw [hacc.1];omega),Array.getElem?_eq_none (by omega)]
   rfl
 rw [ea]
 refine wpAny_bind (wpAny_newList ?_ big)
 have hD:(h1.push (seqObj "list" vs.toArray 0)).get? h1.objs.size=some (seqObj "list" vs.toArray 0):=Heap.get?_push_size _ rfl
 have x2:ExtA s.heap (h1.push (seqObj "list" vs.toArray 0)):=fun b o q=>Heap.get?_push_of_some _ (x1 b o q)
 have x3:∀h',ExtB h1.objs.size (h1.push (seqObj "list" vs.toArray 0)) h'→ExtA s.heap h':=fun h' x b o q=>x b o (Nat.ne_of_lt (Heap.lt_size (x1 b o q))) (x2 b o q)
 have x4:∀h',ExtB h1.objs.size (h1.push (seqObj "list" vs.toArray 0)) h'→ExtA h1 h':=fun h' x b o q=>x b o (Nat.ne_of_lt (Heap.lt_size q)) (Heap.get?_push_of_some _ q)
 refine wpAny_bind (wpAny_holding (wpAny_call_entry slot_list_sort ⟨_,hD,rfl⟩ entry_list_sort ?_ (args_list_sort _)))
 refine sort_at (s:={s with heap:=h1.push (seqObj "list" vs.toArray 0),toks:=tk}) (κ:=κ) (lt:=lt) hD h64 (fun h2 s1 x=>hk h2 s1 (x3 _ x)) (fun h2 s1 x=>ha h2 s1 (x3 _ x)) fun h' c x hc=>?_
 exact ⟨_,rfl,wpAny_pure ⟨_,rfl,h h1 _ h' _ c x1 (Nat.le_refl _) (x4 _ x) hc⟩⟩
end
open PySem PySem.Spec PyProof.Rows L2 PySem.W
end L3
namespace K1
open PySem L2 L3 M1
noncomputable abbrev Kt:=Int × Nat
noncomputable def rd0:M1.Rd:=⟨0,0,0,0⟩
noncomputable def rBeg (hs:List (List Nat)) (ds:List M1.Rd) (r:Nat):Str:=S (hs.getD (ds.getD r rd0).a [])
noncomputable def rFin (hs:List (List Nat)) (ds:List M1.Rd) (r:Nat):Str:=S (hs.getD (ds.getD r rd0).b [])
noncomputable def rTn (ds:List M1.Rd) (r:Nat):Int:=(ds.getD r rd0).t
noncomputable def rRm (ds:List M1.Rd) (r:Nat):Int:=(ds.getD r rd0).m
noncomputable def stepK (hs:List (List Nat)) (ds:List M1.Rd) (k:Kt):Step:=⟨k.1,some k.2,rFin hs ds k.2,k.1+rTn ds k.2⟩
noncomputable def addAt (st:Step) (ns:List Nat) (sss:List (List Step)):List (List Step):=sss.mapIdx fun i ss=>if i∈ns then ss++[st] else ss
theorem addAt_len (st:Step) (ns:List Nat) (sss:List (List Step)):(addAt st ns sss).length=sss.length:=by
 unfold addAt
 rw [List.length_mapIdx]
theorem addAt_get (st:Step) (ns:List Nat) (sss:List (List Step)) (i:Nat):(addAt st ns sss)[i]?=(sss[i]?).map fun ss=>if i∈ns then ss++[st] else ss:=by
 unfold addAt
 rw [List.getElem?_mapIdx]
theorem addAt_nil (st:Step) (sss:List (List Step)):addAt st [] sss=sss:=by
 apply List.ext_getElem?
 intro i
 rw [addAt_get]
 simp
theorem addAt_snoc (st:Step) {ns:List Nat} {n:Nat} (h:n∉ns) {sss:List (List Step)} {ss:List Step} (e:sss[n]?=some ss):addAt st (ns++[n]) sss=(addAt st ns sss).set n (ss++[st]):=by
 apply List.ext_getElem?
 intro i
 rw [addAt_get,List.getElem?_set,addAt_get,addAt_len]
 by_cases hi:n=i
 ·subst hi
  have hl:=(List.getElem?_eq_some_iff.mp e).1
  rw [if_pos rfl,if_pos hl,e]
  simp
 ·rw [if_neg hi]
  have:(i∈ns++[n])↔i∈ns:=by
   rw [List.mem_append,List.mem_singleton]
   exact ⟨fun z=>z.elim id fun w=>absurd w.symm hi,.inl⟩
  simp only [this]
noncomputable def mask (H:Hp) (ts:List Addr):Hp:=fun b=>if b∈ts then none else H b
theorem mask_at {H:Hp} {ts:List Addr} {b:Addr} {o:HO} (e:H b=some o) (n:b∉ts):mask H ts b=some o:=by
 unfold mask
 rw [if_neg n]
 exact e
theorem mask_no {H:Hp} {ts:List Addr} {b:Addr} (h:b∈ts):mask H ts b=none:=if_pos h
theorem mask_same (H:Hp) (ts:List Addr):Same (mask H ts) H:=fun b o e=>by
 unfold mask at e
 split at e
 ·cases e
 ·exact e
noncomputable def BagAt (H:Hp) (a:Addr) (b:Kt × List Nat):Prop:=∃c,H a=some (.tup [.int b.1.1,.int b.1.2,.ref c])∧H c=some (.tup (b.2.map fun n:Nat=>V.int n))
theorem BagAt.same {H H':Hp} {a:Addr} {b:Kt × List Nat} (h:BagAt H a b) (sm:Same H H'):BagAt H' a b:=let ⟨c,h1,h2⟩:=h;⟨c,sm _ _ h1,sm _ _ h2⟩
structure WalkB (C:Addr) (H:Hp) (x n g st:Addr) (gs:List Str) (ls:List Addr):Prop where
 ins:∃dx,H x=some (.ins C dx (walkFs n g st))
 goals:H g=some (.lst (gs.map V.str))
 steps:H st=some (.lst (refs ls))
theorem WalkB.same {C:Addr} {H H':Hp} {x n g st:Addr} {gs:List Str} {ls:List Addr} (h:WalkB C H x n g st gs ls) (sm:Same H H'):WalkB C H' x n g st gs ls:=
 let ⟨dx,e⟩:=h.ins;⟨⟨dx,sm _ _ e⟩,sm _ _ h.goals,sm _ _ h.steps⟩
theorem StepsAt.same {H H':Hp} {l:Addr} {ss:List Step} (h:StepsAt H l ss) (sm:Same H H'):StepsAt H' l ss:=let ⟨ts,a,b⟩:=h;⟨ts,sm _ _ a,b.same sm⟩
theorem each_same {H H':Hp} {ls:List Addr} {sss:List (List Step)} (h:Paired (StepsAt H) ls sss) (sm:Same H H'):Paired (StepsAt H') ls sss:=Paired.mapP h fun _ _ e=>e.same sm
theorem WalkAt.same {C:Addr} {H H':Hp} {x n g st:Addr} {gs:List Str} {ls:List Addr} {sss:List (List Step)} (h:WalkAt C H x n g st gs ls sss) (sm:Same H H'):WalkAt C H' x n g st gs ls sss:=
 let ⟨dx,e⟩:=h.ins;⟨⟨dx,sm _ _ e⟩,sm _ _ h.goals,sm _ _ h.steps,each_same h.each sm⟩
theorem each_set {H H':Hp} {l:Addr} {ss':List Step} (new:StepsAt H' l ss') (old:∀l' ss,l'≠l→StepsAt H l' ss→StepsAt H' l' ss):∀{ls:List Addr} {sss:List (List Step)} {n:Nat},Paired (StepsAt H) ls sss→ls.Nodup→ls[n]?=some l→Paired (StepsAt H') ls (sss.set n ss')
 | _,_,n,.nil,_,e=>by simp at e
 | a::ls,s0::sss,0,.cons r t,nd,e=>by
  simp only [List.getElem?_cons_zero,Option.some.injEq] at e
  subst e
  rw [List.nodup_cons] at nd
  refine .cons new ?_
  have:∀{ms:List Addr} {tss:List (List Step)},Paired (StepsAt H) ms tss→a∉ms→Paired (StepsAt H') ms tss:=fun {ms tss} p=>by
   induction p with
   | nil=>exact fun _=>.nil
   | cons r t ih=>exact fun h=>.cons (old _ _ (fun z=>h (by rw [z];exact .head _)) r) (ih fun z=>h (.tail _ z))
  exact this t nd.1
 | a::ls,s0::sss,n+1,.cons r t,nd,e=>by
  rw [List.nodup_cons] at nd
  have e':ls[n]?=some l:=by simpa using e
  exact .cons (old _ _ (fun z=>nd.1 (by rw [z];exact List.mem_of_getElem? e')) r) (each_set new old t nd.2 e')
section
variable {P:Program} {w:World} {K:PySem.W.Frag} {mg:Str→Option Value} {base:Heap}
noncomputable def spRoad0 (C:Addr):Sp:=fun vs H Q _=>∃(x a' b':Addr) (xs ys:List L2.V) (k:Int) (v:L2.V),vs=[.ref x,.int k]∧NetAt C H x a' b' xs ys∧0≤k∧k < ys.length∧L2.atI ys k=some v∧Q v H
theorem ok_road0 {C f:Addr} {fd:FuncData} (F:Fun K "road" "Net.road" sRoadM f fd) (B:Blt mg) (NC:NetC K C):FnOk P w K mg base CX0 1 f fd ["self","number"] (spRoad0 C):=by
 refine F.ok scRoadM (fun vs H Q E h=>?_) (fun cdv A outer s H vs Q E hr h=>?_)
 ·obtain ⟨x,a',b',xs,ys,k,v,rfl,_⟩:=h
  rfl
 ·obtain ⟨x,a',b',xs,ys,k,v,rfl,n,h0,h1,hv,q⟩:=h
  obtain ⟨dx,hx⟩:=n.ins
  refine ⟨_,(pss_cons (ps_if (pt_not (pt_chain op_le op_lt pe_int (pv 1) (pe_callB call_len_seq (by rfl) B.len bt_len (pa_cons (pe_fld (pv 0) (by rfl)) pa_nil)))) (pss_one ps_never) pss_nil)
   (pss_one (ps_ret (pe_ix ix_list (pe_fld (pv 0) (by rfl)) (pv 1) (fun _ _=>rfl))))),?_⟩
  refine ⟨_,rfl,_,_,rfl,rfl,_,rfl,?_⟩
  refine iteB (decide_eq_true h0) ⟨_,rfl,x,C,dx,_,_,rfl,hx,NC.cl,NC.nr,rfl,b',_,rfl,.inl (SqL.of n.roa),_,_,rfl,rfl,_,rfl,?_⟩
  refine iteNS h1 ?_
  exact ⟨_,rfl,x,C,dx,_,_,rfl,hx,NC.cl,NC.nr,rfl,_,rfl,b',_,_,_,rfl,rfl,SqL.of n.roa,hv,q⟩
noncomputable def spSend (C CN:Addr):Sp:=fun vs H Q _=>∃(Hb:Hp) (x n g st a' b' bg:Addr) (gs:List Str) (ls rs:List Addr) (sss:List (List Step)) (hs:List (List Nat)) (ds:List M1.Rd) (b:Kt × List Nat),vs=[.ref x,.ref bg]∧Same Hb H∧WalkB C Hb x n g st gs ls∧Paired (StepsAt H) ls sss∧ls.Nodup∧(∀l∈ls,Hb l=none)∧
 NetAt CN Hb n a' b' (txs hs) (refs rs)∧RoadsAt Hb hs rs ds∧BagAt Hb bg b∧b.1.2 < ds.length∧b.2.Nodup∧(∀i∈b.2,i < sss.length)∧(∀ss∈sss,ss.length≤100)∧
 ∀H',Same Hb H'→Paired (StepsAt H') ls (addAt (stepK hs ds b.1) b.2 sss)→Q .non H'
noncomputable abbrev sSend:Stmt:=inClass (top 20) 2
theorem scSend:FnScope ["self","bag","road","number"] ["self","bag"] (defScope sSend):=⟨rfl,rfl,rfl,by decide+kernel,rfl,by decide+kernel,by decide+kernel⟩
theorem ok_send {C CN f f1:Addr} {fd fd1:FuncData} (F:Fun K "send" "Walk.send" sSend f fd) (WC:WalkC K C) (Cl_Net:Cls K CN) (M_Net_road:Mn K CN "road" "Net.road" sRoadM ["self","number"] f1 fd1) (G_Net_road:FnOk P w K mg base CX0 1 f1 fd1 ["self","number"] (spRoad0 CN)):
  FnOk P w K mg base CX0 2 f fd ["self","bag"] (spSend C CN):=by
 refine F.ok scSend (fun vs H Q E h=>?_) (fun cdv A outer s H vs Q E hr h=>?_)
 ·obtain ⟨Hb,x,n,g,st,a',b',bg,gs,ls,rs,sss,hs,ds,b,rfl,_⟩:=h
  rfl
 ·obtain ⟨Hb,x,n,g,st,a',b',bg,gs,ls,rs,sss,hs,ds,b,rfl,sb,W,each,nd,fr,N,R,hbg,hr2,ndb,hlt,few,q⟩:=h
  obtain ⟨dx,hx⟩:=W.ins
  obtain ⟨dn,hn⟩:=N.ins
  obtain ⟨c,hb1,hb2⟩:=hbg
  have rl:=R.len
  refine ⟨_,(pss_cons (ps_set (i:=2) scSend.nd rfl (Or.inl rfl) (pe_meth (pe_fld (pv 0) (by rfl)) Cl_Net M_Net_road.me G_Net_road (hr.mono (by decide)) M_Net_road.bd .nil pass0 (pa_cons (pe_ix ix_tup (pv 1) pe_int (fun _ _=>rfl)) pa_nil)))
   (pss_one (ps_for PassesOwn.never rfl (pi_tup (pe_ix ix_tup (pv 1) pe_int (fun _ _=>rfl))) (pg_name (i:=3) scSend.nd rfl (Or.inl rfl))
    (pss_one (ps_expr (pe_bm PySem.F.plainAttrs_list PySem.F.slot_list_append PySem.F.type_list_append mt_append (pe_ix ix_list (pe_fld (pv 0) (by rfl)) (pv 3) (fun _ _=>rfl)) (pa_cons (pe_tup (pa_cons (pe_ix ix_tup (pv 1) pe_int (fun _ _=>rfl)) (pa_cons (pe_ix ix_tup (pv 1) pe_int (fun _ _=>rfl)) (pa_cons (pe_ix ix_tup (pv 2) pe_int (fun _ _=>rfl)) (pa_cons (pe_op op_add (pe_ix ix_tup (pv 1) pe_int (fun _ _=>rfl)) (pe_ix ix_tup (pv 2) pe_int (fun _ _=>rfl))) pa_nil))))) pa_nil))))))),?_⟩
  obtain ⟨r,er⟩:∃r,rs[b.1.2]?=some r:=⟨_,List.getElem?_eq_getElem (by omega)⟩
  obtain ⟨d,ed,_,hd⟩:=R.get er
  have e0:ds.getD b.1.2 rd0=d:=gd_of ed
  refine ⟨_,rfl,x,C,dx,_,_,rfl,sb _ _ hx,WC.cl,WC.nn,rfl,n,dn,_,rfl,sb _ _ hn,rfl,_,rfl,bg,_,_,_,rfl,rfl,SqT.of (sb _ _ hb1),rfl,n,a',b',_,_,_,_,rfl,N.same sb,(by omega),(by have:=refs_len rs;omega),(atI_nat (by unfold refs;rw [List.getElem?_map,er];rfl)),?_⟩
  refine ⟨_,rfl,bg,_,_,_,rfl,rfl,SqT.of (sb _ _ hb1),rfl,c,rfl,?_⟩
  refine ⟨⟨_,SqT.of (sb _ _ hb2)⟩,?_⟩
  have eV:rdV hs d=[.str (rBeg hs ds b.1.2),.str (rFin hs ds b.1.2),.int (rTn ds b.1.2),.int (rRm ds b.1.2)]:=by
   unfold rdV rBeg rFin rTn rRm
   rw [e0]
  rw [eV] at hd
  refine for_tup (K:=K) (a:=c) (xs:=b.2.map fun n:Nat=>V.int n) (fun j σ Hj=>∃v3,σ=[some (.ref x),some (.ref bg),some (.ref r),v3]∧Same Hb Hj∧Paired (StepsAt Hj) ls (addAt (stepK hs ds b.1) (b.2.take j) sss))
   ⟨none,rfl,sb,by rw [List.take_zero,addAt_nil];exact each⟩ (fun j σ Hj _ ⟨_,_,h,_⟩=>SqT.of (h _ _ hb2)) ?_ ?_
  ·rintro j z σ Hj ez ⟨v3,rfl,sj,ej⟩
   rw [List.getElem?_map] at ez
   obtain ⟨i,ei,rfl⟩:=Option.map_eq_some_iff.mp ez
   have hi:=hlt i (List.mem_of_getElem? ei)
   obtain ⟨ss,es⟩:∃ss,sss[i]?=some ss:=⟨_,List.getElem?_eq_getElem hi⟩
   have ni:i∉b.2.take j:=fun z=>by
    have hj:=(List.getElem?_eq_some_iff.mp ei).1
    have e2:=List.take_append_drop j b.2
    rw [List.drop_eq_getElem_cons hj] at e2
    rw [←e2,List.nodup_append] at ndb
    have e3:b.2[j]=i:=by
     rw [List.getElem?_eq_getElem hj] at ei
     exact Option.some.inj ei
    exact ndb.2.2 i z i (by rw [e3];exact .head _) rfl
   have ga:(addAt (stepK hs ds b.1) (b.2.take j) sss)[i]?=some ss:=by rw [addAt_get,es];simp [ni]
   have ln:=Paired.length ej
   obtain ⟨l,el⟩:∃l,ls[i]?=some l:=⟨_,List.getElem?_eq_getElem (by rw [addAt_len] at ln;omega)⟩
   obtain ⟨ss2,es2,ts,hl,tp⟩:=Paired.get ej el
   rw [ga] at es2
   cases es2
   have hb1j:=SqT.of (K:=K) (sj _ _ hb1)
   have hdj:=SqT.of (K:=K) (sj _ _ hd)
   have tl:=tp.len
   rw [List.length_map] at tl
   have fs:=few ss (List.mem_of_getElem? es)
   have fl:(refs ts).length < sizeLine:=small1000 (by rw [refs_len];omega)
   refine ⟨_,rfl,x,C,dx,_,_,rfl,sj _ _ hx,WC.cl,WC.ns,rfl,_,rfl,st,_,_,_,rfl,rfl,SqL.of (sj _ _ W.steps),(show L2.atI (refs ls) (i:Int)=some (.ref l) from atI_nat (by unfold refs;rw [List.getElem?_map,el];rfl)),.inl ⟨rfl,_,SqL.of hl⟩,?_⟩
   refine ⟨_,rfl,bg,_,_,_,rfl,rfl,hb1j,rfl,_,rfl,bg,_,_,_,rfl,rfl,hb1j,rfl,_,rfl,r,_,_,_,rfl,rfl,hdj,rfl,_,rfl,bg,_,_,_,rfl,rfl,hb1j,rfl,_,rfl,r,_,_,_,rfl,rfl,hdj,rfl,_,_,rfl,rfl,(by show 4≤sizeLine;decide),fun t nt=>?_⟩
   have sjt:=upd_free (o:=.tup [V.int b.1.1,V.int b.1.2,V.str (rFin hs ds b.1.2),V.int (b.1.1+rTn ds b.1.2)]) nt
   have hl2:=sjt _ _ hl
   refine ⟨l,_,_,rfl,rfl,hl2,fl,_,rfl,?_,?_⟩
   ·exact upd_other (fr l (List.mem_of_getElem? el)) (sj.trans sjt)
   ·have tk:b.2.take (j+1)=b.2.take j++[i]:=by
     rw [List.take_add_one,ei]
     rfl
    rw [tk,addAt_snoc _ ni es]
    refine each_set ?_ (fun l' ss' nl h=>?_) ej nd el
    ·refine ⟨ts++[t],by rw [upd_same];unfold refs;rw [List.map_append];rfl,?_⟩
     rw [List.map_append]
     refine Paired.snoc ?_ ((tp.same sjt).upd hl2 (by intro d z;cases z))
     show upd _ l _ t=some (.tup (stV (stepK hs ds b.1)))
     rw [upd_ne (ne_of_none hl nt).symm,upd_same]
     rfl
    ·obtain ⟨ts',h1,h2⟩:=h
     exact ⟨ts',by rw [upd_ne nl];exact sjt _ _ h1,(h2.same sjt).upd hl2 (by intro d z;cases z)⟩
  ·rintro σ Hj ⟨v3,rfl,sj,ej⟩
   refine q Hj sj ?_
   rw [List.length_map,List.take_length] at ej
   exact ej
end
open PySem L2 L3 M1
section
variable {P:Program} {w:World} {K:PySem.W.Frag} {mg:Str→Option Value} {base:Heap}
noncomputable abbrev sGoal:Stmt:=inClass (top 20) 3
theorem scGoal:FnScope ["self","number"] ["self","number"] (defScope sGoal):=⟨rfl,rfl,rfl,by decide+kernel,rfl,by decide+kernel,by decide+kernel⟩
theorem ok_goal {C f:Addr} {fd:FuncData} (F:Fun K "goal" "Walk.goal" sGoal f fd) (WC:WalkC K C):FnOk P w K mg base CX0 1 f fd ["self","number"] (spGoal C):=by
 refine F.ok scGoal (fun vs H Q E h=>?_) (fun cdv A outer s H vs Q E hr h=>?_)
 ·obtain ⟨x,n,g,st,gs,ls,sss,k,y,rfl,_⟩:=h
  rfl
 ·obtain ⟨x,n,g,st,gs,ls,sss,k,y,rfl,W,ey,q⟩:=h
  obtain ⟨dx,hx⟩:=W.ins
  refine ⟨_,(pss_one (ps_ret (pe_ix ix_list (pe_fld (pv 0) (by rfl)) (pv 1) (fun _ _=>rfl)))),?_⟩
  exact ⟨_,rfl,x,C,dx,_,_,rfl,hx,WC.cl,WC.ng,rfl,_,rfl,g,_,_,_,rfl,rfl,SqL.of W.goals,atI_nat (by rw [List.getElem?_map,ey];rfl),q⟩
end
open PySem L2 L3 M1
end K1
namespace M1
noncomputable def mnum (c:Int):Int:=c * 1099087573 % 10000000000037
noncomputable def mbeg (n:Nat) (c:Int):Int:=mnum c % n
noncomputable def mend (n:Nat) (c:Int):Int:=(mbeg n c+1+mnum c / n % ((n:Int) - 1)) % n
noncomputable def mroom (c:Int):Int:=if mnum c / 27000 % 5=0 then 1+mnum c / 135000 % 10 ^ 9 else 1+mnum c / 9000 % 3
noncomputable def mrd (n:Nat) (c:Int):Rd:=⟨(mbeg n c).toNat,(mend n c).toNat,1+mnum c / 1000 % 9,mroom c⟩
theorem mrd_ok {n:Nat} (h:1 < n) (c:Int):(mrd n c).Ok n:=by
 have b1:0≤mbeg n c:=Int.emod_nonneg _ (by omega)
 have b2:mbeg n c < n:=Int.emod_lt_of_pos _ (by omega)
 have e1:0≤mend n c:=Int.emod_nonneg _ (by omega)
 have e2:mend n c < n:=Int.emod_lt_of_pos _ (by omega)
 have d1:0≤mnum c / n % ((n:Int) - 1):=Int.emod_nonneg _ (by omega)
 have d2:mnum c / n % ((n:Int) - 1) < (n:Int) - 1:=Int.emod_lt_of_pos _ (by omega)
 have ne:mbeg n c≠mend n c:=by
  intro z
  have e3:mend n c=(mbeg n c+1+mnum c / n % ((n:Int) - 1)) % n:=rfl
  generalize mnum c / n % ((n:Int) - 1)=x at d1 d2 e3
  by_cases hlt:mbeg n c+1+x < n
  ·rw [Int.emod_eq_of_lt (by omega) hlt] at e3
   omega
  ·have h5:(mbeg n c+1+x) % (n:Int)=(mbeg n c+1+x - n) % (n:Int):=by rw [Int.sub_emod_right]
   rw [h5,Int.emod_eq_of_lt (by omega) (by omega)] at e3
   omega
 have t1:0≤mnum c / 1000 % 9:=Int.emod_nonneg _ (by decide)
 have t2:mnum c / 1000 % 9 < 9:=Int.emod_lt_of_pos _ (by decide)
 have m:1≤mroom c∧mroom c≤1000000000:=by
  unfold mroom
  split
  ·have p9:(10:Int) ^ 9=1000000000:=by decide
   rw [p9]
   omega
  ·omega
 exact ⟨by show (mbeg n c).toNat < n;omega,by show (mend n c).toNat < n;omega,by show (mbeg n c).toNat≠(mend n c).toNat;omega,by show 1≤1+_∧1+_≤9;omega,m⟩
end M1
namespace K1
open PySem L2 L3 M1
noncomputable def spRd1:Sp:=fun vs H Q _=>∃(c:Int) (a:Addr) (hs:List (List Nat)),vs=[.int c,.ref a]∧H a=some (.lst (txs hs))∧2≤hs.length∧hs.length≤12∧∀r,H r=none→Q (.ref r) (upd H r (.tup (rdV hs (mrd hs.length c))))
theorem ends_of {t:TS} {D:Ends} {σ:L2.St} {H:Hp} (P:Ends→Prop) (h1:P D) (h2:∀D',P D'→t D' σ H):t D σ H:=h2 D h1
section
variable {P:Program} {w:World} {K:PySem.W.Frag} {mg:Str→Option Value} {base:Heap}
noncomputable abbrev sRd1:Stmt:=top 46
noncomputable abbrev nRd1:List Str:=["_law_cell","_law_names","_law_n","_law_many","_law_first","_law_last","_law_room"]
theorem scRd1:FnScope nRd1 ["_law_cell","_law_names"] (defScope sRd1):=⟨rfl,rfl,rfl,by decide+kernel,rfl,by decide+kernel,by decide+kernel⟩
theorem ok_rd1 {f:Addr} {fd:FuncData} (F:Fun K "_law_road" "_law_road" sRd1 f fd) (B:Blt mg):FnOk P w K mg base CX0 1 f fd ["_law_cell","_law_names"] spRd1:=by
 refine F.ok scRd1 (fun vs H Q E h=>?_) (fun cdv A outer s H vs Q E hr h=>?_)
 ·obtain ⟨c,a,hs,rfl,_⟩:=h
  rfl
 ·obtain ⟨c,a,hs,rfl,ha,h2,h12,q⟩:=h
  refine ⟨_,(pss_cons (ps_set (i:=2) scRd1.nd rfl (Or.inl rfl) (pe_op op_mod (pe_op op_mul (pv 0) pe_int) pe_int))
   (pss_cons (ps_set (i:=3) scRd1.nd rfl (Or.inl rfl) (pe_callB call_len_seq (by rfl) B.len bt_len (pa_cons (pv 1) pa_nil)))
   (pss_cons (ps_set (i:=4) scRd1.nd rfl (Or.inl rfl) (pe_op op_mod (pv 2) (pv 3)))
   (pss_cons (ps_set (i:=5) scRd1.nd rfl (Or.inl rfl) (pe_op op_mod (pe_op op_add (pe_op op_add (pv 4) pe_int) (pe_op op_mod (pe_op op_fdiv (pv 2) (pv 3)) (pe_op op_sub (pv 3) pe_int))) (pv 3)))
   (pss_cons (ps_set (i:=6) scRd1.nd rfl (Or.inl rfl) (pe_op op_add pe_int (pe_op op_mod (pe_op op_fdiv (pv 2) pe_int) pe_int)))
   (pss_cons (ps_if (pt_cmpR op_eq (pe_op op_mod (pe_op op_fdiv (pv 2) pe_int) pe_int) pe_int (nomark _)) (pss_one (ps_set (i:=6) scRd1.nd rfl (Or.inl rfl) (pe_op op_add pe_int (pe_op op_mod (pe_op op_fdiv (pv 2) pe_int) (pe_op op_pow pe_int pe_int))))) pss_nil)
   (pss_one (ps_ret (pe_tup (pa_cons (pe_ix ix_list (pv 1) (pv 4) (fun _ _=>rfl)) (pa_cons (pe_ix ix_list (pv 1) (pv 5) (fun _ _=>rfl)) (pa_cons (pe_op op_add pe_int (pe_op op_mod (pe_op op_fdiv (pv 2) pe_int) pe_int)) (pa_cons (pv 6) pa_nil))))))))))))),?_⟩
  have hl:=txs_len hs
  have b1:0≤mbeg hs.length c:=Int.emod_nonneg _ (by omega)
  have b2:mbeg hs.length c < hs.length:=Int.emod_lt_of_pos _ (by omega)
  have e1:0≤mend hs.length c:=Int.emod_nonneg _ (by omega)
  have e2:mend hs.length c < hs.length:=Int.emod_lt_of_pos _ (by omega)
  refine ⟨_,rfl,_,_,rfl,rfl,.inr ⟨by decide,by decide⟩,_,_,rfl,rfl,(by show (0:Int) < 10000000000037;decide),?_⟩
  refine ⟨_,rfl,a,_,rfl,.inl (SqL.of ha),?_⟩
  rw [hl]
  refine ⟨_,rfl,_,rfl,_,_,rfl,rfl,(by show (0:Int) < (hs.length:Int);omega),?_⟩
  refine ⟨_,rfl,_,_,rfl,rfl,_,rfl,_,rfl,_,_,rfl,rfl,⟨by show (0:Int) < (hs.length:Int);omega,by show (hs.length:Int) < 1073741824;omega⟩,_,rfl,_,_,rfl,rfl,_,_,rfl,rfl,(by show (0:Int) < (hs.length:Int) - 1;omega),_,_,rfl,rfl,_,rfl,_,_,rfl,rfl,(by show (0:Int) < (hs.length:Int);omega),?_⟩
  refine ⟨_,rfl,_,_,rfl,rfl,⟨by decide,by decide⟩,_,_,rfl,rfl,(by show (0:Int) < 3;decide),_,_,rfl,rfl,?_⟩
  dsimp only [gName,tSeq]
  refine ends_of (t:=tIfS _ _ _) (fun D'=>D'.nx [some (.int c),some (.ref a),some (.int (mnum c)),some (.int hs.length),some (.int (mbeg hs.length c)),some (.int (mend hs.length c)),some (.int (mroom c))] H) ?_ fun D' rest=>?_
  ·refine ⟨_,rfl,_,rfl,a,_,_,_,rfl,rfl,SqL.of ha,txs_at b1 b2,_,rfl,_,rfl,a,_,_,_,rfl,rfl,SqL.of ha,txs_at e1 e2,_,rfl,_,_,rfl,rfl,⟨by decide,by decide⟩,_,_,rfl,rfl,(by show (0:Int) < 9;decide),_,_,rfl,rfl,_,rfl,(by show 4≤sizeLine;decide),q⟩
  ·refine ⟨_,rfl,_,_,rfl,rfl,⟨by decide,by decide⟩,_,_,rfl,rfl,(by show (0:Int) < 5;decide),rfl,_,rfl,?_⟩
   by_cases h5:mnum c / 27000 % 5=0
   ·refine iteB (by show decide (V.int (mnum c / 27000 % 5)=V.int 0)=true;rw [h5];decide) ?_
    refine ⟨_,rfl,_,_,rfl,rfl,⟨by decide,by decide⟩,_,_,rfl,rfl,⟨by decide,by decide,by decide⟩,_,_,rfl,rfl,(by show (0:Int) < 10 ^ (9:Int).toNat;decide),_,_,rfl,rfl,?_⟩
    have e6:mroom c=1+mnum c / 135000 % 10 ^ (9:Int).toNat:=by unfold mroom;rw [if_pos h5];rfl
    rw [e6] at rest
    exact rest
   ·refine iteN (by show decide (V.int (mnum c / 27000 % 5)=V.int 0)=false;exact decide_eq_false fun z=>h5 (V.int.inj z)) ?_
    have e6:mroom c=1+mnum c / 9000 % 3:=by unfold mroom;rw [if_neg h5]
    rw [e6] at rest
    exact rest
end
open PySem L2 L3 M1
theorem dec_int (i j:Int):decide (V.int i=V.int j)=decide (i=j):=by
 by_cases h:i=j
 ·rw [decide_eq_true h,decide_eq_true (congrArg V.int h)]
 ·rw [decide_eq_false h,decide_eq_false fun z=>h (V.int.inj z)]
noncomputable def lenD (n:Int):PyData→Bool
 | .tuple ds=>decide ((ds.length:Int)=n)
 | _=>false
noncomputable def spWholeD:Sp:=fun vs H Q _=>∃(v:L2.V) (d:PyData),vs=[v]∧Th H v d∧Q (.bl (isWholeD d)) H
noncomputable def spWithinD:Sp:=fun vs H Q _=>∃(v:L2.V) (d:PyData) (lo hi:Int),vs=[v,.int lo,.int hi]∧Th H v d∧Q (.bl (withinD lo hi d)) H
noncomputable def spTupOfD:Sp:=fun vs H Q _=>∃(v:L2.V) (d:PyData) (n:Int),vs=[v,.int n]∧Th H v d∧Q (.bl (lenD n d)) H
noncomputable def spUnlikeD:Sp:=fun vs H Q _=>∃(a:Addr) (hs:List PyData) (v u:L2.V) (d e:PyData),vs=[.ref a,v,u]∧Th H (.ref a) (.list hs)∧Th H v d∧Th H u e∧d.depth≤60∧e.depth≤60∧Q (.bl (unlikeD hs d e)) H
theorem depth_mem {ds:List PyData} {d:PyData} (h:d∈ds):d.depth≤PyData.depthAll ds:=by
 induction ds with
 | nil=>cases h
 | cons x r ih=>
  simp only [PyData.depthAll]
  rcases List.mem_cons.mp h with rfl | h
  ·exact Nat.le_max_left _ _
  ·exact Nat.le_trans (ih h) (Nat.le_max_right _ _)
section
variable {P:Program} {w:World} {K:PySem.W.Frag} {mg:Str→Option Value} {base:Heap}
theorem ok_wholeD {f:Addr} {fd:FuncData} (F:Fun K "is_whole" "is_whole" sWhole f fd) (B:Blt mg):FnOk P w K mg base CX0 1 f fd ["thing"] spWholeD:=by
 refine F.ok scWhole (fun vs H Q E h=>?_) (fun cdv A outer s H vs Q E hr h=>?_)
 ·obtain ⟨v,d,rfl,_⟩:=h
  rfl
 ·obtain ⟨v,d,rfl,h,q⟩:=h
  refine ⟨_,(pss_one (ps_ret (pe_and (pe_callB call_isi (by rfl) B.isinstance bt_isinstance (pa_cons (pv 0) (pa_cons (pe_bty (by rfl) B.int bt_int) pa_nil))) (pe_one (pe_not (pe_callB call_isi (by rfl) B.isinstance bt_isinstance (pa_cons (pv 0) (pa_cons (pe_bty (by rfl) B.bool bt_bool) pa_nil)))))))),?_⟩
  refine ⟨_,rfl,_,_,_,_,_,rfl,⟨rfl,h.ty,kit_b K (kb_int d)⟩,_,rfl,?_⟩
  cases d with
  | int i=>exact iteT ⟨_,rfl,_,_,_,_,_,rfl,⟨rfl,h.ty,kit_b K (kb_bool _)⟩,_,rfl,q⟩
  | bool b=>exact iteT ⟨_,rfl,_,_,_,_,_,rfl,⟨rfl,h.ty,kit_b K (kb_bool _)⟩,_,rfl,q⟩
  | _=>exact iteF q
theorem ok_withinD {f fW:Addr} {fd fdW:FuncData} (F:Fun K "is_whole_within" "is_whole_within" sWithin f fd) (D_is_whole:Dn K mg "is_whole" sWhole ["thing"] fW fdW)
  (G_is_whole:FnOk P w K mg base CX0 1 fW fdW ["thing"] spWholeD):FnOk P w K mg base CX0 2 f fd ["thing","least","greatest"] spWithinD:=by
 refine F.ok scWithin (fun vs H Q E h=>?_) (fun cdv A outer s H vs Q E hr h=>?_)
 ·obtain ⟨v,d,lo,hi,rfl,_⟩:=h
  rfl
 ·obtain ⟨v,d,lo,hi,rfl,h,q⟩:=h
  refine ⟨_,(pss_one (ps_ret (pe_and (pe_call G_is_whole (hr.mono (by decide)) (by rfl) D_is_whole.at_ D_is_whole.fn.kp D_is_whole.bd .nil pass0 (pa_cons (pv 0) pa_nil)) (pe_one (pe_chain op_le op_le (pv 1) (pv 0) (pv 2)))))),?_⟩
  refine ⟨_,rfl,v,d,rfl,h,_,rfl,?_⟩
  cases h with
  | int i=>
   have q:Q (.bl (decide (lo≤i) && decide (i≤hi))) H:=q
   refine iteT ⟨_,rfl,_,rfl,_,_,rfl,rfl,_,rfl,?_⟩
   by_cases h1:lo≤i
   ·rw [decide_eq_true h1,Bool.true_and] at q
    exact iteB (decide_eq_true h1) ⟨_,rfl,_,_,rfl,rfl,q⟩
   ·rw [decide_eq_false h1,Bool.false_and] at q
    exact iteN (decide_eq_false h1) q
  | _=>exact iteF q
theorem ok_tupOfD {f:Addr} {fd:FuncData} (F:Fun K "is_tuple_of" "is_tuple_of" sTupOf f fd) (B:Blt mg):FnOk P w K mg base CX0 1 f fd ["thing","length"] spTupOfD:=by
 refine F.ok scTupOf (fun vs H Q E h=>?_) (fun cdv A outer s H vs Q E hr h=>?_)
 ·obtain ⟨v,d,n,rfl,_⟩:=h
  rfl
 ·obtain ⟨v,d,n,rfl,h,q⟩:=h
  refine ⟨_,(pss_one (ps_ret (pe_and (pe_callB call_isi (by rfl) B.isinstance bt_isinstance (pa_cons (pv 0) (pa_cons (pe_bty (by rfl) B.tuple bt_tuple) pa_nil))) (pe_one (pe_cmpR op_eq (pe_callB call_len_seq (by rfl) B.len bt_len (pa_cons (pv 0) pa_nil)) (pv 1) (nomark _)))))),?_⟩
  refine ⟨_,rfl,_,_,_,_,_,rfl,⟨rfl,h.ty,kit_b K (kb_tuple d)⟩,_,rfl,?_⟩
  cases h with
  | @tup a xs ds ha z t=>
   refine iteT ⟨_,rfl,a,_,rfl,.inr (SqT.of ha),_,rfl,rfl,?_⟩
   show Q (.bl (decide (V.int (xs.length:Int)=V.int n))) H
   rw [dec_int,t.len]
   exact q
  | _=>exact iteF q
theorem ok_unlikeD {f:Addr} {fd:FuncData} (F:Fun K "are_unlike_houses" "are_unlike_houses" sUnlike f fd):FnOk P w K mg base CX0 1 f fd ["houses","one","other"] spUnlikeD:=by
 refine F.ok scUnlike (fun vs H Q E h=>?_) (fun cdv A outer s H vs Q E hr h=>?_)
 ·obtain ⟨a,hs,v,u,d,e,rfl,_⟩:=h
  rfl
 ·obtain ⟨a,hs,v,u,d,e,rfl,ha,hv,hu,dd,de,q⟩:=h
  refine ⟨_,(pss_one (ps_ret (pe_and (pe_cmpR (op_inD (in65 hr)) (pv 1) (pv 0) (by rfl)) (pe_and (pe_cmpR (op_inD (in65 hr)) (pv 2) (pv 0) (by rfl)) (pe_one (pe_cmpR (op_neD hr.units) (pv 1) (pv 2) (nomark _))))))),?_⟩
  have can:PyData.canLayAll0 hs=true:=ha.can
  have sd:SeqAt.shaped d=true:=shaped_of hv.can dd (by decide)
  have se:SeqAt.shaped e=true:=shaped_of hu.can de (by decide)
  have q:Q (.bl (inD d hs && inD e hs && !PyData.eqv d e)) H:=q
  refine ⟨_,rfl,_,rfl,d,hs,hv.dt,ha.dt,sd,can,_,rfl,?_⟩
  show if inD d hs=true then _ else _
  cases h1:inD d hs with
  | false=>
   rw [h1] at q
   exact iteF q
  | true=>
   rw [h1] at q
   refine iteT ⟨_,rfl,_,rfl,e,hs,hu.dt,ha.dt,se,can,_,rfl,?_⟩
   show if inD e hs=true then _ else _
   cases h2:inD e hs with
   | false=>
    rw [h2] at q
    exact iteF q
   | true=>
    rw [h2] at q
    exact iteT ⟨_,rfl,_,rfl,d,e,hv.dt,hu.dt,sd,se,q⟩
end
open PySem L2 L3 M1
theorem notin_strs {ys:List Str} {x:Str} (h:x∉ys):inV (.str x) (ys.map V.str)=false:=by
 unfold inV
 rw [Bool.eq_false_iff]
 intro z
 obtain ⟨v,hv,e⟩:=List.any_eq_true.mp z
 obtain ⟨y,hy,rfl⟩:=List.mem_map.mp hv
 have e':(y==x)=true:=e
 exact h (eq_of_beq e'▸hy)
theorem getD_of {α:Type} {l:List α} {i:Nat} {d x:α} (h:l[i]?=some x):l.getD i d=x:=by rw [List.getD,h];rfl
noncomputable def spNeed (C R:Addr):Sp:=fun vs H Q E=>∃(x a' b':Addr) (hs:List (List Nat)) (zs:List L2.V) (h:Str),vs=[.ref x,.str h]∧NetAt C H x a' b' (txs hs) zs∧(h∈hs.map S→Q .non H)∧(h∉hs.map S→E (.ref R) none H)
section
variable {P:Program} {w:World} {K:PySem.W.Frag} {mg:Str→Option Value} {base:Heap}
noncomputable abbrev sNeed:Stmt:=inClass (top 36) 7
theorem scNeed:FnScope ["self","house"] ["self","house"] (defScope sNeed):=⟨rfl,rfl,rfl,by decide+kernel,rfl,by decide+kernel,by decide+kernel⟩
theorem ok_need {C R f:Addr} {fd:FuncData} {Bc newId initId:String} {bm:List Value} (F:Fun K "need_house" "Net.need_house" sNeed f fd) (NC:NetC K C) (EB_NoHouse:ExcBaseFacts Bc newId initId bm) (EX_NoHouse:Exc K mg "NoHouse" R bm newId):
  FnOk P w K mg base (CXe P w) 1 f fd ["self","house"] (spNeed C R):=by
 refine okE F scNeed (fun vs H Q E h=>?_) (fun cdv A outer s H vs Q E hr h=>?_)
 ·obtain ⟨x,a',b',hs,zs,h',rfl,_⟩:=h
  rfl
 ·obtain ⟨x,a',b',hs,zs,h',rfl,n,q,qE⟩:=h
  obtain ⟨dx,hx⟩:=n.ins
  refine ⟨_,(pss_one (ps_if (pt_cmpR op_notIn_seq (pv 1) (pe_fld (pv 0) (by rfl)) (by rfl)) (pss_one (ps_raise EB_NoHouse EX_NoHouse rfl (pa_cons pe_str pa_nil))) pss_nil)),?_⟩
  have hl:SqL K H a' ((hs.map S).map V.str):=by rw [←txs_map];exact SqL.of n.hou
  refine ⟨_,rfl,_,rfl,x,C,dx,_,_,rfl,hx,NC.cl,NC.nh,rfl,a',_,rfl,.inl hl,rfl,flat_strs _,_,rfl,?_⟩
  by_cases hm:h'∈hs.map S
  ·exact iteN (by rw [in_strs hm];rfl) (q hm)
  ·exact iteB (by rw [notin_strs hm];rfl) ⟨by show 1≤sizeLine;decide,qE hm⟩
end
open PySem L2 L3 M1
theorem zip_range {α β:Type} (xs:List α) (q:Nat→Bool) (g:Nat→β):(xs.zipIdx.filter fun z=>q z.2).map (fun z=>g z.2)=((List.range xs.length).filter q).map g:=by
 have e:xs.zipIdx.map (·.2)=List.range xs.length:=by rw [List.zipIdx_map_snd,List.range_eq_range']
 rw [←e,List.filter_map,List.map_map]
 rfl
noncomputable def d0:M1.Rd:=⟨0,0,0,0⟩
noncomputable def touchN (hs:List (List Nat)) (ds:List M1.Rd) (prj:M1.Rd→Nat) (h:Str):List Nat:=(List.range ds.length).filter fun i=>decide (V.str (S (hs.getD (prj (ds.getD i d0)) []))=V.str h)
noncomputable def touch (hs:List (List Nat)) (ds:List M1.Rd) (prj:M1.Rd→Nat) (h:Str):List Int:=(touchN hs ds prj h).map fun i:Nat=>(i:Int)
theorem touch_len (hs:List (List Nat)) (ds:List M1.Rd) (prj:M1.Rd→Nat) (h:Str):(touch hs ds prj h).length≤ds.length:=by
 unfold touch touchN
 rw [List.length_map]
 exact Nat.le_trans (List.length_filter_le _ _) (by rw [List.length_range];exact Nat.le_refl _)
noncomputable def spOut (C R:Addr) (prj:M1.Rd→Nat):Sp:=fun vs H Q E=>∃(x a' b':Addr) (hs:List (List Nat)) (rs:List Addr) (ds:List M1.Rd) (h:Str),vs=[.ref x,.str h]∧NetAt C H x a' b' (txs hs) (refs rs)∧RoadsAt H hs rs ds∧rs.length≤40∧
 (h∈hs.map S→∀(p:Addr) (H':Hp),H p=none→Same H H'→H' p=some (.lst ((touch hs ds prj h).map V.int))→Q (.ref p) H')∧(h∉hs.map S→E (.ref R) none H)
section
variable {P:Program} {w:World} {K:PySem.W.Frag} {mg:Str→Option Value} {base:Heap}
noncomputable abbrev sOut:Stmt:=inClass (top 36) 4
theorem scOut:FnScope ["self","house"] ["self","house"] (defScope sOut):=⟨rfl,rfl,rfl,by decide+kernel,rfl,by decide+kernel,by decide+kernel⟩
theorem ok_out {C R f fn:Addr} {fd fdn:FuncData} (F:Fun K "out_of" "Net.out_of" sOut f fd) (B:Blt mg) (NC:NetC K C)
  (M_Net_need_house:Mn K C "need_house" "Net.need_house" sNeed ["self","house"] fn fdn) (G_Net_need_house:FnOk P w K mg base (CXe P w) 1 fn fdn ["self","house"] (spNeed C R)):
  FnOk P w K mg base (CXe P w) 2 f fd ["self","house"] (spOut C R (·.a)):=by
 have Cl_Net:=NC.cl
 refine okE F scOut (fun vs H Q E h=>?_) (fun cdv A outer s H vs Q E hr h=>?_)
 ·obtain ⟨x,a',b',hs,rs,ds,h',rfl,_⟩:=h
  rfl
 ·obtain ⟨x,a',b',hs,rs,ds,h',rfl,n,hR,few,q,qE⟩:=h
  obtain ⟨dx,hx⟩:=n.ins
  refine ⟨_,(pss_cons (ps_expr (pe_meth (pv 0) Cl_Net M_Net_need_house.me G_Net_need_house (hr.mono (by decide)) M_Net_need_house.bd .nil pass_on (pa_cons (pv 1) pa_nil)))
   (pss_one (ps_ret (pe_lc (N':=["number","road","house"]) (cs:=[none,none,some 1]) rfl (pi_enum rfl B.enumerate (pa_cons (pe_fld (pv 0) (by rfl)) pa_nil)) rfl (by decide+kernel) rfl (by decide+kernel) (sub_of (List.forall_mem_cons.mpr ⟨rfl,(fun p hp=>absurd hp (List.not_mem_nil))⟩)) rfl
    (.own (.own (.cap rfl (.inl rfl) (.inl rfl) rfl .nil)))
    (fun C s3 H3 fp pn=>⟨(pg_tupK (K:=K) (n:=2) rfl rfl (pgs_cons (pg_name (i:=0) (by show (["number","road","house"]:List Str).Nodup;decide+kernel) rfl (.inl rfl)) (pgs_cons (pg_name (i:=1) (by show (["number","road","house"]:List Str).Nodup;decide+kernel) rfl (.inl rfl)) pgs_nil))),(pif_one (pt_cmpR op_eq (pe_ix (ix_tupK (K:=K) rfl) (pv 1) pe_int (fun _ _=>rfl)) (pv 2) (nomark _))),(pv 0)⟩))))),?_⟩
  have hl:=refs_len rs
  have hdl:=hR.len
  refine ⟨_,rfl,x,dx,_,rfl,hx,rfl,_,rfl,x,a',b',hs,_,h',rfl,n,fun hm=>?_,qE⟩
  refine ⟨_,rfl,x,C,dx,_,_,rfl,hx,NC.cl,NC.nr,rfl,b',rfl,⟨_,SqL.of n.roa⟩,?_⟩
  refine lc_enum (rest:=[some (.str h')]) rfl (SqL.of n.roa) (small1000 (by omega)) (fun i _=>decide (V.str (S (hs.getD (ds.getD i d0).a []))=V.str h')) (fun i _=>.int i) (fun i v H2 R ev sm hR2=>?_) (fun i v H2 R ev _ sm hR2=>⟨_,rfl,hR2 H2 (Same.refl _)⟩) (fun D H' h1 h2 h3=>q hm D H' h1 h3 ?_)
  ·unfold refs at ev
   rw [List.getElem?_map] at ev
   obtain ⟨r,er,rfl⟩:=Option.map_eq_some_iff.mp ev
   obtain ⟨d,ed,ok,hd⟩:=hR.get er
   have e0:ds.getD i d0=d:=getD_of ed
   rw [e0] at hR2
   exact ⟨_,rfl,r,_,_,_,rfl,rfl,SqT.of (sm _ _ hd),rfl,_,rfl,rfl,_,rfl,hR2 H2 (Same.refl _)⟩
  ·rw [h2,zip_range (refs rs) (fun i=>decide (V.str (S (hs.getD (ds.getD i d0).a []))=V.str h')) (fun i=>V.int i),hl,hdl]
   unfold touch
   rw [List.map_map]
   rfl
end
open PySem L2 L3 M1
noncomputable abbrev DTs:=List (List Key × L2.V)
noncomputable def pk (h g:Str):List Key:=[.inr h,.inr g]
noncomputable def waysF (n t:Addr):List (Str × L2.V):=[("net",.ref n),("told",.ref t)]
structure WaysAt (C CN:Addr) (H:Hp) (x n t a' b':Addr) (xs ys:List L2.V) (kvs:DTs):Prop where
 ins:∃dx,H x=some (.ins C dx (waysF n t))
 net:NetAt CN H n a' b' xs ys
 told:H t=some (.dT kvs)
theorem WaysAt.same {C CN:Addr} {H H':Hp} {x n t a' b':Addr} {xs ys:List L2.V} {kvs:DTs} (W:WaysAt C CN H x n t a' b' xs ys kvs) (sm:Same H H'):WaysAt C CN H' x n t a' b' xs ys kvs:=
 let ⟨dx,h⟩:=W.ins
 ⟨⟨dx,sm _ _ h⟩,W.net.same sm,sm _ _ W.told⟩
structure WaysC (K:PySem.W.Frag) (C:Addr):Prop where
 cl:Cls K C
 nn:PySem.W.findIn K (.ref C) "net"=some none
 nt:PySem.W.findIn K (.ref C) "told"=some none
noncomputable def spWI (C:Addr):Sp:=fun vs H Q _=>∃(x dx:Addr) (v:L2.V),vs=[.ref x,v]∧H x=some (.ins C dx [])∧∀t,H t=none→Q .non (upd (upd H t (.dT [])) x (.ins C dx [("net",v),("told",.ref t)]))
noncomputable def spNP (C CN NH:Addr):Sp:=fun vs H Q E=>∃(x n t a' b':Addr) (hs:List (List Nat)) (ys:List L2.V) (kvs:DTs) (v u:L2.V) (d e:PyData),vs=[.ref x,v,u]∧WaysAt C CN H x n t a' b' (txs hs) ys kvs∧Good hs∧Th H v d∧Th H u e∧d.depth≤60∧e.depth≤60∧
 (unlikeD (hD hs) d e=true→∀H',Same H H'→Q .non H')∧(unlikeD (hD hs) d e=false→∀H',Same H H'→E (.ref NH) none H')
noncomputable def spSW (C CN NH NR:Addr):Sp:=fun vs H Q E=>∃(x n t a' b':Addr) (hs:List (List Nat)) (rs:List Addr) (ds:List M1.Rd) (kvs:DTs) (h g:Str) (i:Int),vs=[.ref x,.str h,.str g,.int i]∧WaysAt C CN H x n t a' b' (txs hs) (refs rs) kvs∧Good hs∧RoadsAt H hs rs ds∧rs.length≤40∧
 Th H (.str h) (.str h)∧Th H (.str g) (.str g)∧kvs.length < sizeLine∧
 (unlikeD (hD hs) (.str h) (.str g)=true→i∈touch hs ds (·.a) h→∀H',Same H H'→Q .non (upd H' t (.dT (putK kvs (pk h g) (.int i)))))∧
 (unlikeD (hD hs) (.str h) (.str g)=false→∀H',Same H H'→E (.ref NH) none H')∧
 (unlikeD (hD hs) (.str h) (.str g)=true→i∉touch hs ds (·.a) h→∀H',Same H H'→E (.ref NR) none H')
theorem flat_ints (ys:List Int):(ys.map V.int).all flatV=true:=by
 rw [List.all_eq_true]
 intro x hx
 obtain ⟨y,_,rfl⟩:=List.mem_map.mp hx
 rfl
theorem in_ints {ys:List Int} {x:Int} (h:x∈ys):inV (.int x) (ys.map V.int)=true:=by
 unfold inV
 rw [List.any_eq_true]
 exact ⟨.int x,List.mem_map.mpr ⟨x,h,rfl⟩,by show (x==x)=true;exact beq_self_eq_true x⟩
theorem notin_ints {ys:List Int} {x:Int} (h:x∉ys):inV (.int x) (ys.map V.int)=false:=by
 unfold inV
 rw [Bool.eq_false_iff]
 intro z
 obtain ⟨v,hv,e⟩:=List.any_eq_true.mp z
 obtain ⟨y,hy,rfl⟩:=List.mem_map.mp hv
 have e':(y==x)=true:=e
 exact h (eq_of_beq e'▸hy)
theorem unlike_mem {hs:List (List Nat)} {h g:Str} (c:unlikeD (hD hs) (.str h) (.str g)=true):h∈hs.map S∧g∈hs.map S:=by
 unfold unlikeD at c
 simp only [Bool.and_eq_true] at c
 exact ⟨Classical.byContradiction fun n=>by rw [inD_hD n] at c;exact Bool.false_ne_true c.1.1,Classical.byContradiction fun n=>by rw [inD_hD n] at c;exact Bool.false_ne_true c.1.2⟩
section
variable {P:Program} {w:World} {K:PySem.W.Frag} {mg:Str→Option Value} {base:Heap}
noncomputable abbrev sWI:Stmt:=inClass (top 38) 0
theorem scWI:FnScope ["self","net"] ["self","net"] (defScope sWI):=⟨rfl,rfl,rfl,by decide+kernel,rfl,by decide+kernel,by decide+kernel⟩
theorem ok_wI {C f:Addr} {fd:FuncData} (F:Fun K "__init__" "Ways.__init__" sWI f fd) (WC:WaysC K C):FnOk P w K mg base CX0 1 f fd ["self","net"] (spWI C):=by
 refine F.ok scWI (fun vs H Q E h=>?_) (fun cdv A outer s H vs Q E hr h=>?_)
 ·obtain ⟨x,dx,v,rfl,_⟩:=h
  rfl
 ·obtain ⟨x,dx,v,rfl,hx,q⟩:=h
  refine ⟨_,(pss_cons (ps_fld (pv 0) (pv 1) rfl)
   (pss_one (ps_fld (pv 0) pe_dnewT rfl))),?_⟩
  refine ⟨_,rfl,_,rfl,x,C,dx,_,rfl,hx,WC.cl,WC.nn,(by show 0 < 1000;decide),?_⟩
  intro t nt
  have ntx:t≠x:=fun e=>by rw [e,upd_same] at nt;cases nt
  rw [upd_ne ntx] at nt
  refine ⟨_,rfl,x,C,dx,_,rfl,(by rw [upd_ne (Ne.symm ntx)];exact upd_same),WC.cl,WC.nt,(by show 1 < 1000;decide),?_⟩
  have e1:upd (upd (upd H x (.ins C dx [("net",v)])) t (.dT [])) x (.ins C dx [("net",v),("told",.ref t)])=upd (upd H t (.dT [])) x (.ins C dx [("net",v),("told",.ref t)]):=by
   funext b
   by_cases hb:b=x
   ·rw [hb,upd_same,upd_same]
   ·rw [upd_ne hb,upd_ne hb]
    by_cases hc:b=t
    ·rw [hc,upd_same,upd_same]
    ·rw [upd_ne hc,upd_ne hc,upd_ne hb]
  show Q .non (upd (upd (upd H x (.ins C dx [("net",v)])) t (.dT [])) x (.ins C dx [("net",v),("told",.ref t)]))
  rw [e1]
  exact q t nt
noncomputable abbrev sNP:Stmt:=inClass (top 38) 6
theorem scNP:FnScope ["self","house","goal"] ["self","house","goal"] (defScope sNP):=⟨rfl,rfl,rfl,by decide+kernel,rfl,by decide+kernel,by decide+kernel⟩
theorem ok_np {C CN NH f f1 f2:Addr} {fd fd1 fd2:FuncData} {Bc newId initId:String} {bm:List Value} (F:Fun K "need_pair" "Ways.need_pair" sNP f fd) (WC:WaysC K C) (Cl_Net:Cls K CN) (EB_NoHouse:ExcBaseFacts Bc newId initId bm) (EX_NoHouse:Exc K mg "NoHouse" NH bm newId)
  (M_Net_houses:Mn K CN "houses" "Net.houses" sHousesM ["self"] f1 fd1) (G_Net_houses:FnOk P w K mg base CX0 1 f1 fd1 ["self"] (spHousesM CN))
  (D_are_unlike_houses:Dn K mg "are_unlike_houses" sUnlike ["houses","one","other"] f2 fd2) (G_are_unlike_houses:FnOk P w K mg base CX0 1 f2 fd2 ["houses","one","other"] spUnlikeD):
  FnOk P w K mg base (CXe P w) 2 f fd ["self","house","goal"] (spNP C CN NH):=by
 refine okE F scNP (fun vs H Q E h=>?_) (fun cdv A outer s H vs Q E hr h=>?_)
 ·obtain ⟨x,n,t,a',b',hs,ys,kvs,v,u,d,e,rfl,_⟩:=h
  rfl
 ·obtain ⟨x,n,t,a',b',hs,ys,kvs,v,u,d,e,rfl,W,G,hv,hu,dd,de,q,qE⟩:=h
  obtain ⟨dx,hx⟩:=W.ins
  refine ⟨_,(pss_one (ps_if (pt_not (pt_val (pe_call G_are_unlike_houses (hr.mono (by decide)) (by rfl) D_are_unlike_houses.at_ D_are_unlike_houses.fn.kp D_are_unlike_houses.bd .nil pass0 (pa_cons (pe_meth0 (pe_fld (pv 0) (by rfl)) Cl_Net M_Net_houses.me G_Net_houses (hr.mono (by decide)) M_Net_houses.bd .nil pass0) (pa_cons (pv 1) (pa_cons (pv 2) pa_nil)))))) (pss_one (ps_raise EB_NoHouse EX_NoHouse rfl (pa_cons pe_str pa_nil))) pss_nil)),?_⟩
  obtain ⟨dn,hn⟩:=W.net.ins
  refine ⟨_,rfl,x,C,dx,_,_,rfl,hx,WC.cl,WC.nn,rfl,n,dn,_,rfl,hn,rfl,n,a',b',_,_,rfl,W.net,fun l nl=>?_⟩
  have sl:=upd_free (o:=.lst (txs hs)) nl
  refine ⟨_,rfl,_,rfl,l,hD hs,v,u,d,e,rfl,th_hD G upd_same,hv.same sl,hu.same sl,dd,de,_,rfl,?_⟩
  cases hc:unlikeD (hD hs) d e with
  | true=>exact q hc _ sl
  | false=>exact ⟨by show 1≤sizeLine;decide,qE hc _ sl⟩
noncomputable abbrev sSW:Stmt:=inClass (top 38) 1
theorem scSW:FnScope ["self","house","goal","road"] ["self","house","goal","road"] (defScope sSW):=⟨rfl,rfl,rfl,by decide+kernel,rfl,by decide+kernel,by decide+kernel⟩
theorem ok_sw {C CN NH NR f f1 f2:Addr} {fd fd1 fd2:FuncData} {Bc newId initId:String} {bm:List Value} (F:Fun K "set_way" "Ways.set_way" sSW f fd) (WC:WaysC K C) (Cl_Net:Cls K CN) (EB_NoRoad:ExcBaseFacts Bc newId initId bm) (EX_NoRoad:Exc K mg "NoRoad" NR bm newId)
  (M_Net_out_of:Mn K CN "out_of" "Net.out_of" sOut ["self","house"] f1 fd1) (G_Net_out_of:FnOk P w K mg base (CXe P w) 2 f1 fd1 ["self","house"] (spOut CN NH (·.a)))
  (M_Ways_need_pair:Mn K C "need_pair" "Ways.need_pair" sNP ["self","house","goal"] f2 fd2) (G_Ways_need_pair:FnOk P w K mg base (CXe P w) 2 f2 fd2 ["self","house","goal"] (spNP C CN NH)):
  FnOk P w K mg base (CXe P w) 3 f fd ["self","house","goal","road"] (spSW C CN NH NR):=by
 have Cl_Ways:=WC.cl
 refine okE F scSW (fun vs H Q E h=>?_) (fun cdv A outer s H vs Q E hr h=>?_)
 ·obtain ⟨x,n,t,a',b',hs,rs,ds,kvs,h',g',i,rfl,_⟩:=h
  rfl
 ·obtain ⟨x,n,t,a',b',hs,rs,ds,kvs,h',g',i,rfl,W,G,hR,few,hv,hu,few2,q,qE,qR⟩:=h
  obtain ⟨dx,hx⟩:=W.ins
  obtain ⟨dn,hn⟩:=W.net.ins
  refine ⟨_,(pss_cons (ps_expr (pe_meth (pv 0) Cl_Ways M_Ways_need_pair.me G_Ways_need_pair (hr.mono (by decide)) M_Ways_need_pair.bd .nil pass_on (pa_cons (pv 1) (pa_cons (pv 2) pa_nil))))
   (pss_cons (ps_if (pt_cmpR op_notIn_seq (pv 3) (pe_meth (pe_fld (pv 0) (by rfl)) Cl_Net M_Net_out_of.me G_Net_out_of (hr.mono (by decide)) M_Net_out_of.bd .nil pass_on (pa_cons (pv 1) pa_nil)) (by rfl)) (pss_one (ps_raise EB_NoRoad EX_NoRoad rfl (pa_cons pe_str pa_nil))) pss_nil)
   (pss_one (ps_dput (hu_of hr) (pe_fld (pv 0) (by rfl)) (pe_tup (pa_cons (pv 1) (pa_cons (pv 2) pa_nil))) (pv 3) rfl)))),?_⟩
  refine ⟨_,rfl,x,dx,_,rfl,hx,rfl,_,rfl,_,rfl,x,n,t,a',b',hs,_,kvs,.str h',.str g',.str h',.str g',rfl,W,G,hv,hu,(by show 0≤60;decide),(by show 0≤60;decide),fun hc H1 s1=>?_,qE⟩
  have hm:=unlike_mem hc
  refine ⟨_,rfl,_,rfl,x,C,dx,_,_,rfl,s1 _ _ hx,WC.cl,WC.nn,rfl,n,dn,_,rfl,s1 _ _ hn,rfl,_,rfl,n,a',b',hs,rs,ds,h',rfl,W.net.same s1,hR.same s1,few,fun _ p H2 np s2 hp=>?_,fun hno=>absurd hm.1 hno⟩
  have s12:=s1.trans s2
  refine ⟨p,_,rfl,.inl (SqL.of hp),rfl,flat_ints _,_,rfl,?_⟩
  by_cases hi:i∈touch hs ds (·.a) h'
  ·refine iteN (by rw [in_ints hi];rfl) ?_
   refine ⟨_,rfl,_,rfl,x,C,dx,_,_,rfl,s12 _ _ hx,WC.cl,WC.nt,rfl,_,rfl,_,rfl,(by show 2≤sizeLine;decide),fun r nr=>?_⟩
   have s3:=upd_free (o:=.tup [V.str h',V.str g']) nr
   exact ⟨t,_,rfl,DPut.t (k:=pk h' g') ((s12.trans s3) _ _ W.told) upd_same few2,q hc hi _ (s12.trans s3)⟩
  ·refine iteB (by rw [notin_ints hi];rfl) ⟨by show 1≤sizeLine;decide,qR hc hi _ s12⟩
end
open PySem L2 L3 M1
noncomputable def wayOf (kvs:DTs) (h g:Str):Option Nat:=match valV kvs (pk h g) with | some (.int k)=>some k.toNat | _=>none
structure TabOk (kvs:DTs) (m:Nat):Prop where
 val:∀k v,valV kvs k=some v→∃i:Nat,v=.int (i:Int)∧i < m
theorem TabOk.get {kvs:DTs} {m:Nat} (t:TabOk kvs m) (h g:Str):(valV kvs (pk h g)=none∧wayOf kvs h g=none)∨∃i:Nat,valV kvs (pk h g)=some (.int (i:Int))∧wayOf kvs h g=some i∧i < m:=by
 cases e:valV kvs (pk h g) with
 | none=>exact .inl ⟨rfl,by unfold wayOf;rw [e]⟩
 | some v=>
  obtain ⟨i,rfl,hi⟩:=t.val _ _ e
  exact .inr ⟨i,rfl,by unfold wayOf;rw [e];simp,hi⟩
theorem nodup_len {α:Type} [DecidableEq α]:∀{sn L:List α},sn.Nodup→(∀y∈sn,y∈L)→sn.length≤L.length
 | [],_,_,_=>Nat.zero_le _
 | x::r,L,nd,h=>by
  have hx:=h x (.head _)
  have ih:=nodup_len (sn:=r) (L:=L.erase x) (List.nodup_cons.mp nd).2 (fun y hy=>(List.mem_erase_of_ne (show y≠x from fun e=>(List.nodup_cons.mp nd).1 (by rw [←e];exact hy))).mpr (h y (.tail _ hy)))
  rw [List.length_erase_of_mem hx] at ih
  have:=List.length_pos_of_mem hx
  rw [List.length_cons]
  omega
theorem nodup_snoc {α:Type} {l:List α} {x:α} (nd:l.Nodup) (h:x∉l):(l++[x]).Nodup:=by
 rw [List.nodup_append]
 exact ⟨nd,List.nodup_cons.mpr ⟨List.not_mem_nil,List.nodup_nil⟩,fun a ha b hb e=>h (by rw [←List.mem_singleton.mp hb,←e];exact ha)⟩
end K1
namespace L3
open PySem PySem.Spec PyProof.Rows L2
end L3
namespace K1
open PySem L2 L3 M1
noncomputable abbrev Row:=Str × Str × Int
noncomputable def r0:Row:=(Str.empty,Str.empty,0)
noncomputable def spWy (C CN NH:Addr):Sp:=fun vs H Q E=>∃(x n t a' b':Addr) (hs:List (List Nat)) (ys:List L2.V) (kvs:DTs) (h g:Str),vs=[.ref x,.str h,.str g]∧WaysAt C CN H x n t a' b' (txs hs) ys kvs∧Good hs∧Th H (.str h) (.str h)∧Th H (.str g) (.str g)∧
 (unlikeD (hD hs) (.str h) (.str g)=true→∀H',Same H H'→Q ((valV kvs (pk h g)).getD .non) H')∧(unlikeD (hD hs) (.str h) (.str g)=false→∀H',Same H H'→E (.ref NH) none H')
section
variable {P:Program} {w:World} {K:PySem.W.Frag} {mg:Str→Option Value} {base:Heap}
noncomputable abbrev sWy:Stmt:=inClass (top 38) 3
theorem scWy:FnScope ["self","house","goal"] ["self","house","goal"] (defScope sWy):=⟨rfl,rfl,rfl,by decide+kernel,rfl,by decide+kernel,by decide+kernel⟩
theorem ok_wy {C CN NH f f2:Addr} {fd fd2:FuncData} (F:Fun K "way" "Ways.way" sWy f fd) (WC:WaysC K C)
  (M_Ways_need_pair:Mn K C "need_pair" "Ways.need_pair" sNP ["self","house","goal"] f2 fd2) (G_Ways_need_pair:FnOk P w K mg base (CXe P w) 2 f2 fd2 ["self","house","goal"] (spNP C CN NH)):
  FnOk P w K mg base (CXe P w) 3 f fd ["self","house","goal"] (spWy C CN NH):=by
 have Cl_Ways:=WC.cl
 refine okE F scWy (fun vs H Q E h=>?_) (fun cdv A outer s H vs Q E hr h=>?_)
 ·obtain ⟨x,n,t,a',b',hs,ys,kvs,h',g',rfl,_⟩:=h
  rfl
 ·obtain ⟨x,n,t,a',b',hs,ys,kvs,h',g',rfl,W,G,hv,hu,q,qE⟩:=h
  obtain ⟨dx,hx⟩:=W.ins
  refine ⟨_,(pss_cons (ps_expr (pe_meth (pv 0) Cl_Ways M_Ways_need_pair.me G_Ways_need_pair (hr.mono (by decide)) M_Ways_need_pair.bd .nil pass_on (pa_cons (pv 1) (pa_cons (pv 2) pa_nil))))
   (pss_one (ps_ret (pe_dget1 (hu_of hr) (pe_fld (pv 0) (by rfl)) (pe_tup (pa_cons (pv 1) (pa_cons (pv 2) pa_nil))) ⟨rfl,rfl,rfl,rfl⟩)))),?_⟩
  refine ⟨_,rfl,x,dx,_,rfl,hx,rfl,_,rfl,_,rfl,x,n,t,a',b',hs,_,kvs,.str h',.str g',.str h',.str g',rfl,W,G,hv,hu,(by show 0≤60;decide),(by show 0≤60;decide),fun hc H1 s1=>?_,qE⟩
  refine ⟨_,rfl,x,C,dx,_,_,rfl,s1 _ _ hx,WC.cl,WC.nt,rfl,t,rfl,.inr ⟨_,.inl (s1 _ _ W.told)⟩,_,rfl,_,rfl,(by show 2≤sizeLine;decide),fun r nr=>?_⟩
  have s3:=upd_free (o:=.tup [V.str h',V.str g']) nr
  exact ⟨_,DGet.t (k:=pk h' g') (s3 _ _ (s1 _ _ W.told)) upd_same,q hc _ (s1.trans s3)⟩
end
end K1
namespace M4
variable {κ:Type} [DecidableEq κ]
structure Ed (κ:Type) where
 a:κ
 b:κ
 t:Int
inductive Path (rs:List (Ed κ)) (s:κ):κ→Int→Prop
 | nil:Path rs s s 0
 | snoc {v:Int} (e:Ed κ):Path rs s e.a v→e∈rs→Path rs s e.b (v+e.t)
theorem Path.cons {rs:List (Ed κ)} (e:Ed κ) (he:e∈rs) {g:κ} {w:Int} (p:Path rs e.b g w):Path rs e.a g (e.t+w):=by
 induction p with
 | nil=>
  have:=Path.snoc e (Path.nil (rs:=rs) (s:=e.a)) he
  rwa [Int.zero_add,←Int.add_zero e.t] at this
 | snoc f _ hf ih=>
  rw [←Int.add_assoc]
  exact Path.snoc f ih hf
theorem Path.first {rs:List (Ed κ)} {s g:κ} {w:Int} (p:Path rs s g w):(s=g∧w=0)∨∃e∈rs,∃u,e.a=s∧Path rs e.b g u∧w=e.t+u:=by
 induction p with
 | nil=>exact .inl ⟨rfl,rfl⟩
 | @snoc v f _ hf ih=>
  refine .inr ?_
  rcases ih with ⟨rfl,rfl⟩ | ⟨e,he,u,e1,p,rfl⟩
  ·exact ⟨f,hf,0,rfl,.nil,by omega⟩
  ·exact ⟨e,he,u+f.t,e1,.snoc f p hf,by omega⟩
theorem Path.nonneg {rs:List (Ed κ)} (hp:∀e∈rs,1≤e.t) {s g:κ} {w:Int} (p:Path rs s g w):0≤w:=by
 induction p with
 | nil=>exact Int.le_refl _
 | snoc e _ he ih=>have:=hp e he;omega
structure Least (rs:List (Ed κ)) (s:κ) (d:κ→Option Int):Prop where
 path:∀k v,d k=some v→Path rs s k v
 least:∀k w,Path rs s k w→∃v,d k=some v∧v≤w
structure Mid (rs:List (Ed κ)) (s:κ) (ns:List κ) (d:κ→Option Int):Prop where
 start:d s=some 0
 path:∀k v,d k=some v→Path rs s k v
 few:∀k v,d k=some v→v < 9 * (ns.countP fun k=>(d k).isSome)
noncomputable def ok (d:κ→Option Int) (e:Ed κ):Prop:=∀v,d e.a=some v→∃u,d e.b=some u∧u≤v+e.t
theorem Mid.done {rs:List (Ed κ)} {s:κ} {ns:List κ} {d:κ→Option Int} (m:Mid rs s ns d) (h:∀e∈rs,ok d e):Least rs s d:=by
 refine ⟨m.path,fun k w p=>?_⟩
 induction p with
 | nil=>exact ⟨0,m.start,Int.le_refl _⟩
 | snoc e _ he ih=>
  obtain ⟨v,h1,h2⟩:=ih
  obtain ⟨u,h3,h4⟩:=h e he v h1
  exact ⟨u,h3,by omega⟩
noncomputable def put (d:κ→Option Int) (b:κ) (v:Int):κ→Option Int:=fun k=>if k=b then some v else d k
theorem count_le {p q:κ→Bool} (h:∀k,p k=true→q k=true):∀ns:List κ,ns.countP p≤ns.countP q
 | []=>by simp
 | k::r=>by
  have ih:=count_le h r
  simp only [List.countP_cons]
  have:=h k
  split <;> split <;> simp_all <;> omega
theorem count_lt {p q:κ→Bool} (h:∀k,p k=true→q k=true) {b:κ} (h1:p b=false) (h2:q b=true):∀{ns:List κ},b∈ns→ns.countP p < ns.countP q
 | [],z=>by simp at z
 | k::r,z=>by
  simp only [List.countP_cons]
  by_cases e:k=b
  ·subst e
   have:=count_le h r
   simp [h1,h2]
   omega
  ·have ih:=count_lt h h1 h2 (ns:=r) (by rcases List.mem_cons.mp z with z | z;exact absurd z.symm e;exact z)
   have:=h k
   split <;> split <;> simp_all <;> omega
theorem sum_le {f g:κ→Nat} (h:∀k,f k≤g k):∀ns:List κ,(ns.map f).sum≤(ns.map g).sum
 | []=>by simp
 | k::r=>by
  have:=sum_le h r
  have:=h k
  simp only [List.map_cons,List.sum_cons]
  omega
theorem sum_lt {f g:κ→Nat} (h:∀k,f k≤g k) {b:κ} (h1:f b < g b):∀{ns:List κ},b∈ns→(ns.map f).sum < (ns.map g).sum
 | [],z=>by simp at z
 | k::r,z=>by
  simp only [List.map_cons,List.sum_cons]
  by_cases e:k=b
  ·subst e
   have:=sum_le h r
   omega
  ·have ih:=sum_lt h h1 (ns:=r) (by rcases List.mem_cons.mp z with z | z;exact absurd z.symm e;exact z)
   have:=h k
   omega
noncomputable def val (n:Nat):Option Int→Nat
 | none=>n
 | some v=>v.toNat
noncomputable def mu (ns:List κ) (d:κ→Option Int):Nat:=(ns.map fun k=>val (9 * ns.length) (d k)).sum
theorem Mid.put {rs:List (Ed κ)} {s:κ} {ns:List κ} {d:κ→Option Int} (m:Mid rs s ns d) (hp:∀e∈rs,1≤e.t∧e.t≤9) {e:Ed κ} (he:e∈rs) (hb:e.b∈ns) {v:Int} (ha:d e.a=some v) (hs:∀u,d e.b=some u→v+e.t < u):
  Mid rs s ns (put d e.b (v+e.t))∧mu ns (M4.put d e.b (v+e.t)) < mu ns d:=by
 have hv:0≤v:=(m.path _ _ ha).nonneg fun e he=>(hp e he).1
 have ht:=hp e he
 have pth:∀k w,M4.put d e.b (v+e.t) k=some w→Path rs s k w:=fun k w h=>by
  unfold M4.put at h
  split at h
  ·rename_i q
   cases h
   rw [q]
   exact .snoc e (m.path _ _ ha) he
  ·exact m.path k w h
 have hm:∀k,(d k).isSome=true→(M4.put d e.b (v+e.t) k).isSome=true:=fun k h=>by
  unfold M4.put
  split
  ·rfl
  ·exact h
 have few:∀k w,M4.put d e.b (v+e.t) k=some w→w < 9 * (ns.countP fun k=>(M4.put d e.b (v+e.t) k).isSome):=fun k w h=>by
  have hle:=count_le hm ns
  by_cases q:k=e.b
  ·have h':w=v+e.t:=by
    unfold M4.put at h
    rw [if_pos q] at h
    exact (Option.some.inj h).symm
   have hva:=m.few _ _ ha
   cases hd:d e.b with
   | some u=>
    have:=hs u hd
    have:=m.few _ _ hd
    omega
   | none=>
    have hlt:ns.countP (fun k=>(d k).isSome) < ns.countP fun k=>(M4.put d e.b (v+e.t) k).isSome:=count_lt hm (b:=e.b) (by rw [hd];rfl) (by unfold M4.put;rw [if_pos rfl];rfl) hb
    omega
  ·have h':d k=some w:=by
    unfold M4.put at h
    rwa [if_neg q] at h
   have:=m.few k w h'
   omega
 refine ⟨⟨?_,pth,few⟩,?_⟩
 ·unfold M4.put
  split
  ·rename_i q
   rw [←q] at hs
   have:=hs 0 m.start
   omega
  ·exact m.start
 ·have hc:ns.countP (fun k=>(M4.put d e.b (v+e.t) k).isSome)≤ns.length:=List.countP_le_length
  have hn:=few e.b (v+e.t) (by unfold M4.put;rw [if_pos rfl])
  have lt:val (9 * ns.length) (M4.put d e.b (v+e.t) e.b) < val (9 * ns.length) (d e.b):=by
   have e1:M4.put d e.b (v+e.t) e.b=some (v+e.t):=by unfold M4.put;rw [if_pos rfl]
   have hz:((v+e.t).toNat:Int)=v+e.t:=Int.toNat_of_nonneg (by omega)
   rw [e1]
   cases hd:d e.b with
   | some u=>
    have:=hs u hd
    show (v+e.t).toNat < u.toNat
    omega
   | none=>
    show (v+e.t).toNat < 9 * ns.length
    omega
  refine sum_lt (fun k=>?_) (b:=e.b) lt hb
  by_cases q:k=e.b
  ·subst q
   exact Nat.le_of_lt lt
  ·have e2:M4.put d e.b (v+e.t) k=d k:=by unfold M4.put;rw [if_neg q]
   rw [e2]
   exact Nat.le_refl _
theorem Mid.begin {rs:List (Ed κ)} {s:κ} {ns:List κ} (hs:s∈ns):Mid rs s ns (fun k=>if k=s then some 0 else none):=by
 refine ⟨by simp,fun k v h=>?_,fun k v h=>?_⟩
 ·split at h
  ·rename_i q
   cases h
   rw [q]
   exact .nil
  ·cases h
 ·split at h
  ·cases h
   have:0 < ns.countP fun k=>((if k=s then some (0:Int) else none).isSome):=List.countP_pos_iff.mpr ⟨s,hs,by simp⟩
   omega
  ·cases h
structure Fars (rs:List (Ed κ)) (f:κ→Option Int) (g:κ):Prop where
 path:∀k v,f k=some v→Path rs k g v
 least:∀k w,Path rs k g w→∃v,f k=some v∧v≤w
section
variable {rs:List (Ed κ)} {f:κ→Option Int} {g:κ} (F:Fars rs f g) (hp:∀e∈rs,1≤e.t)
include F
theorem Fars.back {e:Ed κ} (he:e∈rs) {u:Int} (h:f e.b=some u):∃v,f e.a=some v∧v≤u+e.t:=by
 obtain ⟨v,h1,h2⟩:=F.least _ _ (Path.cons e he (F.path _ _ h))
 exact ⟨v,h1,by omega⟩
include hp in
theorem Fars.other {k:κ} {v:Int} (hk:k≠g) (h:f k=some v):1≤v∧∃e∈rs,∃u,e.a=k∧f e.b=some u∧v=u+e.t:=by
 rcases (F.path _ _ h).first with ⟨e,_⟩ | ⟨e,he,u,rfl,p,rfl⟩
 ·exact absurd e hk
 ·have h1:=p.nonneg hp
  have h2:=hp e he
  obtain ⟨u',h3,h4⟩:=F.least _ _ p
  obtain ⟨v',h5,h6⟩:=F.back he h3
  rw [h] at h5
  cases h5
  exact ⟨by omega,e,he,u',rfl,h3,by omega⟩
end
theorem Path.min {rs:List (Ed κ)} (hp:∀e∈rs,1≤e.t) {s g:κ}:∀(n:Nat) (w:Int),w.toNat=n→Path rs s g w→∃v,Path rs s g v∧(∀u,Path rs s g u→v≤u):=by
 intro n
 induction n using Nat.strongRecOn with
 | _ n ih=>
  intro w hw p
  by_cases h:∃u,Path rs s g u∧u < w
  ·obtain ⟨u,pu,hu⟩:=h
   have h1:=pu.nonneg hp
   exact ih u.toNat (by omega) u rfl pu
  ·refine ⟨w,p,fun u pu=>?_⟩
   by_cases q:w≤u
   ·exact q
   ·exact absurd ⟨u,pu,by omega⟩ h
open Classical in
noncomputable def dist (rs:List (Ed κ)) (s g:κ):Option Int:=if h:∃v,Path rs s g v∧∀u,Path rs s g u→v≤u then some (Classical.choose h) else none
theorem dist_of {rs:List (Ed κ)} {s:κ} {d:κ→Option Int} (L:Least rs s d) (g:κ):d g=dist rs s g:=by
 unfold dist
 cases hd:d g with
 | some v=>
  have p:=L.path g v hd
  have mn:∀u,Path rs s g u→v≤u:=fun u pu=>by
   obtain ⟨v',h1,h2⟩:=L.least g u pu
   rw [hd] at h1
   cases h1
   exact h2
  have h:∃v,Path rs s g v∧∀u,Path rs s g u→v≤u:=⟨v,p,mn⟩
  rw [dif_pos h]
  have c:=Classical.choose_spec h
  congr 1
  have a:=mn _ c.1
  have b:=c.2 _ p
  omega
 | none=>
  have h:¬∃v,Path rs s g v∧∀u,Path rs s g u→v≤u:=fun ⟨v,p,_⟩=>by
   obtain ⟨v',h1,_⟩:=L.least g v p
   rw [hd] at h1
   cases h1
  rw [dif_neg h]
theorem fars {rs:List (Ed κ)} (hp:∀e∈rs,1≤e.t) (g:κ):Fars rs (fun k=>dist rs k g) g:=by
 refine ⟨fun k v h=>?_,fun k w p=>?_⟩
 ·unfold dist at h
  split at h
  ·rename_i q
   cases h
   exact (Classical.choose_spec q).1
  ·cases h
 ·have q:=p.min hp _ _ rfl
  show ∃v,dist rs k g=some v∧v≤w
  unfold dist
  rw [dif_pos q]
  exact ⟨_,rfl,(Classical.choose_spec q).2 _ p⟩
end M4
namespace K1
open PySem L2 L3 M1
noncomputable def ed (hs:List (List Nat)) (d:M1.Rd):M4.Ed Str:=⟨S (hs.getD d.a []),S (hs.getD d.b []),d.t⟩
noncomputable def eds (hs:List (List Nat)) (ds:List M1.Rd):List (M4.Ed Str):=ds.map (ed hs)
structure Tab (kvs:List (Key × L2.V)) (D:Str→Option Int):Prop where
 at_:∀k:Str,valV kvs (Sum.inr k:Key)=(D k).map V.int
 ks:∀kv∈kvs,∃k:Str,kv.1=(Sum.inr k:Key)
theorem putK_ks {kvs:List (Key × L2.V)} (h:∀kv∈kvs,∃k:Str,kv.1=(Sum.inr k:Key)) (b:Str) (v:L2.V):∀kv∈putK kvs (Sum.inr b:Key) v,∃k:Str,kv.1=(Sum.inr k:Key):=by
 intro kv hk
 unfold putK at hk
 split at hk
 ·obtain ⟨q,hq,e⟩:=List.mem_map.mp hk
  obtain ⟨k,ek⟩:=h q hq
  split at e
  ·exact ⟨k,by rw [←e];exact ek⟩
  ·exact ⟨k,by rw [←e];exact ek⟩
 ·rcases List.mem_append.mp hk with z | z
  ·exact h kv z
  ·exact ⟨b,by rw [List.mem_singleton.mp z]⟩
theorem Tab.put {kvs:List (Key × L2.V)} {D:Str→Option Int} (T:Tab kvs D) (b:Str) (v:Int):Tab (putK kvs (Sum.inr b:Key) (.int v)) (M4.put D b v):=⟨fun k=>by
 rw [valV_put]
 unfold M4.put
 by_cases h:k=b
 ·rw [if_pos h,if_pos (congrArg Sum.inr h)]
  rfl
 ·rw [if_neg h,if_neg fun z=>h (Sum.inr.inj z)]
  exact T.at_ k,putK_ks T.ks b _⟩
theorem putK_old {κ:Type} [DecidableEq κ] {kvs:List (κ × L2.V)} {k:κ} {u:L2.V} (v:L2.V) (h:valV kvs k=some u):(putK kvs k v).length=kvs.length:=by
 unfold putK
 rw [if_pos (by rw [valV_any,h];rfl),List.length_map]
noncomputable def shorter (D:Str→Option Int) (e:M4.Ed Str):Bool:=match D e.a with
 | none=>false
 | some v=>match D e.b with
  | none=>true
  | some u=>decide (v+e.t < u)
theorem shorter_true {D:Str→Option Int} {e:M4.Ed Str} (h:shorter D e=true):∃v,D e.a=some v∧∀u,D e.b=some u→v+e.t < u:=by
 unfold shorter at h
 cases ha:D e.a with
 | none=>rw [ha] at h;cases h
 | some v=>
  rw [ha] at h
  refine ⟨v,rfl,fun u hu=>?_⟩
  rw [hu] at h
  exact of_decide_eq_true h
theorem shorter_false {D:Str→Option Int} {e:M4.Ed Str} (h:shorter D e=false):M4.ok D e:=by
 intro v ha
 unfold shorter at h
 rw [ha] at h
 cases hb:D e.b with
 | none=>rw [hb] at h;cases h
 | some u=>
  rw [hb] at h
  exact ⟨u,rfl,by have:=of_decide_eq_false h;omega⟩
noncomputable def spShort:Sp:=fun vs H Q _=>∃(r f:Addr) (hs:List (List Nat)) (d:M1.Rd) (kvs:List (Key × L2.V)) (D:Str→Option Int),vs=[.ref r,.ref f]∧H r=some (.tup (rdV hs d))∧H f=some (.dK kvs)∧Tab kvs D∧Q (.bl (shorter D (ed hs d))) H
noncomputable def spLeast (K:PySem.W.Frag):Sp:=fun vs H Q _=>∃(b:Addr) (hs:List (List Nat)) (rs:List Addr) (ds:List M1.Rd) (h:Str),vs=[.ref b,.str h]∧SqL K H b (refs rs)∧RoadsAt H hs rs ds∧hs.length≤12∧h∈hs.map S∧
 ∀(p:Addr) (H':Hp) (kvs:List (Key × L2.V)) (D:Str→Option Int),H p=none→Same H H'→H' p=some (.dK kvs)→Tab kvs D→M4.Least (eds hs ds) h D→Q (.ref p) H'
section
variable {P:Program} {w:World} {K:PySem.W.Frag} {mg:Str→Option Value} {base:Heap}
noncomputable abbrev sShort:Stmt:=top 34
noncomputable abbrev sLeast:Stmt:=top 35
theorem scShort:FnScope ["road","found"] ["road","found"] (defScope sShort):=⟨rfl,rfl,rfl,by decide+kernel,rfl,by decide+kernel,by decide+kernel⟩
theorem scLeast:FnScope ["roads","house","found","changed","road"] ["roads","house"] (defScope sLeast):=⟨rfl,rfl,rfl,by decide+kernel,rfl,by decide+kernel,by decide+kernel⟩
theorem ok_short {f:Addr} {fd:FuncData} (F:Fun K "is_shorter_by" "is_shorter_by" sShort f fd):FnOk P w K mg base CX0 1 f fd ["road","found"] spShort:=by
 refine F.ok scShort (fun vs H Q E h=>?_) (fun cdv A outer s H vs Q E hr h=>?_)
 ·obtain ⟨r,f',hs,d,kvs,D,rfl,_⟩:=h
  rfl
 ·obtain ⟨r,f',hs,d,kvs,D,rfl,hR,hf,T,q⟩:=h
  refine ⟨_,(pss_cons (ps_if (pt_cmp (pc_dnotin (hu_of hr) (pe_ix ix_tup (pv 0) pe_int (fun _ _=>rfl)) (pv 1))) (pss_one (ps_ret pe_bl)) pss_nil)
   (pss_one (ps_ret (pe_or (pe_cmp (pc_dnotin (hu_of hr) (pe_ix ix_tup (pv 0) pe_int (fun _ _=>rfl)) (pv 1))) (pe_one (pe_cmpR op_lt (pe_op op_add (pe_dget (hu_of hr) (pv 1) (pe_ix ix_tup (pv 0) pe_int (fun _ _=>rfl)) (fun _ _=>rfl)) (pe_ix ix_tup (pv 0) pe_int (fun _ _=>rfl))) (pe_dget (hu_of hr) (pv 1) (pe_ix ix_tup (pv 0) pe_int (fun _ _=>rfl)) (fun _ _=>rfl)) (nomark _))))))),?_⟩
  have ra:=T.at_ (S (hs.getD d.a []))
  have rb:=T.at_ (S (hs.getD d.b []))
  have ga:=DGet.k (k:=Sum.inr (S (hs.getD d.a []))) hf
  have gb:=DGet.k (k:=Sum.inr (S (hs.getD d.b []))) hf
  rw [ra] at ga
  rw [rb] at gb
  unfold shorter at q
  have ea:(ed hs d).a=S (hs.getD d.a []):=rfl
  have eb:(ed hs d).b=S (hs.getD d.b []):=rfl
  rw [ea,eb] at q
  refine ⟨_,rfl,r,_,_,_,rfl,rfl,SqT.of hR,rfl,_,rfl,f',_,rfl,ga,_,rfl,?_⟩
  cases ha:D (S (hs.getD d.a [])) with
  | none=>
   rw [ha] at q
   exact iteT q
  | some v=>
   rw [ha] at q ga
   refine iteF ?_
   refine ⟨_,rfl,r,_,_,_,rfl,rfl,SqT.of hR,rfl,_,rfl,f',_,rfl,gb,_,rfl,?_⟩
   cases hb:D (S (hs.getD d.b [])) with
   | none=>
    rw [hb] at q
    exact iteT q
   | some u=>
    rw [hb] at q gb
    refine iteF ?_
    exact ⟨_,rfl,_,rfl,r,_,_,_,rfl,rfl,SqT.of hR,rfl,f',_,rfl,ga,_,rfl,r,_,_,_,rfl,rfl,SqT.of hR,rfl,_,_,rfl,rfl,_,rfl,_,rfl,r,_,_,_,rfl,rfl,SqT.of hR,rfl,f',_,rfl,gb,_,_,rfl,rfl,q⟩
theorem ok_least {f fs:Addr} {fd fds:FuncData} (F:Fun K "least_turns_from" "least_turns_from" sLeast f fd) (D_is_shorter_by:Dn K mg "is_shorter_by" sShort ["road","found"] fs fds) (G_is_shorter_by:FnOk P w K mg base CX0 1 fs fds ["road","found"] spShort):
  FnOk P w K mg base CX0 2 f fd ["roads","house"] (spLeast K):=by
 refine F.ok scLeast (fun vs H Q E h=>?_) (fun cdv A outer s H vs Q E hr h=>?_)
 ·obtain ⟨b,hs,rs,ds,h',rfl,_⟩:=h
  rfl
 ·obtain ⟨b,hs,rs,ds,h',rfl,hb,hR,few,hm,q⟩:=h
  refine ⟨_,(pss_cons (ps_set (i:=2) scLeast.nd rfl (Or.inl rfl) (pe_disp (pps_cons (pv 1) pe_int pps_nil) rfl rfl (by intro z;cases z) (by decide)))
   (pss_cons (ps_set (i:=3) scLeast.nd rfl (Or.inl rfl) pe_bl)
   (pss_cons (ps_while PassesOwn.never (pt_val (pv 3))
    (pss_cons (ps_set (i:=3) scLeast.nd rfl (Or.inl rfl) pe_bl)
   (pss_one (ps_for PassesOwn.never rfl (pi_list (pv 0)) (pg_name (i:=4) scLeast.nd rfl (Or.inl rfl))
    (pss_one (ps_if (pt_val (pe_call G_is_shorter_by (hr.mono (by decide)) (by rfl) D_is_shorter_by.at_ D_is_shorter_by.fn.kp D_is_shorter_by.bd .nil pass0 (pa_cons (pv 4) (pa_cons (pv 2) pa_nil)))) (pss_cons (ps_dput (hu_of hr) (pv 2) (pe_ix ix_tup (pv 4) pe_int (fun _ _=>rfl)) (pe_op op_add (pe_dget (hu_of hr) (pv 2) (pe_ix ix_tup (pv 4) pe_int (fun _ _=>rfl)) (fun _ _=>rfl)) (pe_ix ix_tup (pv 4) pe_int (fun _ _=>rfl))) rfl)
   (pss_one (ps_set (i:=3) scLeast.nd rfl (Or.inl rfl) pe_bl))) pss_nil))))))
   (pss_one (ps_ret (pv 2)))))),?_⟩
  have he9:∀e∈eds hs ds,1≤e.t∧e.t≤9:=fun e he=>by
   obtain ⟨d,hd,rfl⟩:=List.mem_map.mp he
   exact (hR.ok d hd).t
  refine fun p hp=>⟨_,rfl,upd_same,[(Sum.inr h',.int 0)],rfl,(by show 1≤15;decide),?_⟩
  have e0:upd (upd H p (.dK [])) p (.dK (mergeK [] [((Sum.inr h':Key),V.int 0)]))=upd H p (.dK [((Sum.inr h':Key),V.int 0)]):=by
   rw [upd_upd]
   rfl
  rw [e0]
  have s0:Same H (upd H p (.dK [((Sum.inr h':Key),V.int 0)])):=upd_free hp
  have T0:Tab [((Sum.inr h':Key),V.int 0)] (fun k=>if k=h' then some 0 else none):=⟨fun k=>by
   by_cases z:k=h'
   ·rw [valV_pos (congrArg Sum.inr z.symm),if_pos z]
    rfl
   ·rw [valV_neg fun y=>z (Sum.inr.inj y).symm,if_neg z]
    rfl,fun kv hk=>⟨h',by rw [List.mem_singleton.mp hk]⟩⟩
  have m0:M4.Mid (eds hs ds) h' (hs.map S) (fun k=>if k=h' then some 0 else none):=M4.Mid.begin hm
  have c0:0 < (hs.map S).countP fun k=>((if k=h' then some (0:Int) else none).isSome):=List.countP_pos_iff.mpr ⟨h',hm,by simp⟩
  refine ⟨fun m σ Hc=>∃(kvs:List (Key × L2.V)) (D:Str→Option Int) (ch:Bool) (vr:Option L2.V),σ=[some (.ref b),some (.str h'),some (.ref p),some (.bl ch),vr]∧Same H Hc∧Hc p=some (.dK kvs)∧Tab kvs D∧
   kvs.length≤(hs.map S).countP (fun k=>(D k).isSome)∧M4.Mid (eds hs ds) h' (hs.map S) D∧(ch=false→∀e∈eds hs ds,M4.ok D e)∧m=2 * M4.mu (hs.map S) D+(if ch=true then 1 else 0),
   ⟨_,_,_,true,none,rfl,s0,upd_same,T0,c0,m0,fun z=>(nomatch z),rfl⟩,?_⟩
  rintro m σ Hc ⟨kvs,D,ch,vr,rfl,sm,hk,T,len,mid,hok,rfl⟩
  refine ⟨_,rfl,_,rfl,?_⟩
  cases ch with
  | false=>exact iteF ⟨_,rfl,q p Hc kvs D hp sm hk T (mid.done (hok rfl))⟩
  | true=>
   refine iteT ⟨fun σ' Hd=>∃(kvs':List (Key × L2.V)) (D':Str→Option Int) (ch':Bool) (vr':Option L2.V),σ'=[some (.ref b),some (.str h'),some (.ref p),some (.bl ch'),vr']∧Same H Hd∧Hd p=some (.dK kvs')∧Tab kvs' D'∧
    kvs'.length≤(hs.map S).countP (fun k=>(D' k).isSome)∧M4.Mid (eds hs ds) h' (hs.map S) D'∧((ch'=false∧D'=D∧∀e∈eds hs ds,M4.ok D' e)∨(ch'=true∧M4.mu (hs.map S) D' < M4.mu (hs.map S) D)),?_,?_⟩
   ·rintro σ' Hd ⟨kvs',D',ch',vr',rfl,sm',hk',T',len',mid',hor⟩
    refine ⟨_,?_,kvs',D',ch',vr',rfl,sm',hk',T',len',mid',?_,rfl⟩
    ·rcases hor with ⟨rfl,rfl,_⟩ | ⟨rfl,hlt⟩
     ·simp
     ·simp
      omega
    ·rintro rfl
     rcases hor with ⟨_,_,ho⟩ | ⟨z,_⟩
     ·exact ho
     ·cases z
   ·refine ⟨_,rfl,b,rfl,⟨_,sm.seq hb⟩,?_⟩
    refine for_list (xs:=refs rs) (fun i σ' Hd=>∃(kvs':List (Key × L2.V)) (D':Str→Option Int) (ch':Bool) (vr':Option L2.V),σ'=[some (.ref b),some (.str h'),some (.ref p),some (.bl ch'),vr']∧Same H Hd∧Hd p=some (.dK kvs')∧Tab kvs' D'∧
     kvs'.length≤(hs.map S).countP (fun k=>(D' k).isSome)∧M4.Mid (eds hs ds) h' (hs.map S) D'∧((ch'=false∧D'=D∧∀j d,j < i→ds[j]?=some d→M4.ok D' (ed hs d))∨(ch'=true∧M4.mu (hs.map S) D' < M4.mu (hs.map S) D)))
     ⟨kvs,D,false,vr,rfl,sm,hk,T,len,mid,.inl ⟨rfl,rfl,fun j d hj _=>absurd hj (Nat.not_lt_zero _)⟩⟩ ?_ ?_ ?_
    ·rintro i σ' Hd hi ⟨kvs',D',ch',vr',rfl,sm',_⟩
     exact sm'.seq hb
    ·rintro i z σ' Hd ez ⟨kvs',D',ch',vr',rfl,sm',hk',T',len',mid',hor⟩
     unfold refs at ez
     rw [List.getElem?_map] at ez
     obtain ⟨r,er,rfl⟩:=Option.map_eq_some_iff.mp ez
     obtain ⟨d,edd,okd,hd⟩:=hR.get er
     have hmem:ed hs d∈eds hs ds:=List.mem_map.mpr ⟨d,List.mem_of_getElem? edd,rfl⟩
     refine ⟨_,rfl,_,rfl,r,p,hs,d,kvs',D',rfl,sm' _ _ hd,hk',T',_,rfl,?_⟩
     cases hsh:shorter D' (ed hs d) with
     | false=>
      refine iteF ⟨kvs',D',ch',_,rfl,sm',hk',T',len',mid',?_⟩
      rcases hor with ⟨rfl,rfl,ho⟩ | hor
      ·refine .inl ⟨rfl,rfl,fun j d' hj ej=>?_⟩
       by_cases hji:j=i
       ·subst hji
        rw [edd] at ej
        cases ej
        exact shorter_false hsh
       ·exact ho j d' (by omega) ej
      ·exact .inr hor
     | true=>
      obtain ⟨v,ha,hs'⟩:=shorter_true hsh
      have ha':D' (S (hs.getD d.a []))=some v:=ha
      obtain ⟨mid2,hlt⟩:=mid'.put he9 hmem (mem_at okd.b) ha hs'
      have ga:=DGet.k (k:=Sum.inr (S (hs.getD d.a []))) hk'
      rw [T'.at_,ha'] at ga
      have hcl:(hs.map S).countP (fun k=>(D' k).isSome)≤(hs.map S).length:=List.countP_le_length
      rw [List.length_map] at hcl
      have hrt:=sm' _ _ hd
      refine iteT ?_
      refine ⟨_,rfl,_,rfl,r,_,_,_,rfl,rfl,SqT.of hrt,rfl,p,_,rfl,ga,_,rfl,r,_,_,_,rfl,rfl,SqT.of hrt,rfl,_,_,rfl,rfl,_,rfl,_,rfl,r,_,_,_,rfl,rfl,SqT.of hrt,rfl,p,_,rfl,DPut.k (k:=Sum.inr (S (hs.getD d.b []))) hk' (small1000 (by omega)),?_⟩
      refine ⟨_,M4.put D' (ed hs d).b (v+(ed hs d).t),true,_,rfl,upd_other hp sm',upd_same,T'.put _ _,?_,mid2,.inr ⟨rfl,?_⟩⟩
      ·cases hb':D' (S (hs.getD d.b [])) with
       | none=>
        have e1:(putK kvs' (Sum.inr (S (hs.getD d.b [])):Key) (V.int (v+d.t))).length=kvs'.length+1:=by
         rw [putK_new _ (by rw [T'.at_,hb'];rfl),List.length_append]
         rfl
        have e2:(hs.map S).countP (fun k=>(D' k).isSome) < (hs.map S).countP (fun k=>(M4.put D' (ed hs d).b (v+(ed hs d).t) k).isSome):=
         M4.count_lt (b:=S (hs.getD d.b [])) (fun k hk=>by unfold M4.put;split;rfl;exact hk) (by rw [hb'];rfl) (by unfold M4.put;rw [if_pos (show S (hs.getD d.b [])=(ed hs d).b from rfl)];rfl) (mem_at okd.b)
        exact Nat.le_trans (Nat.le_of_eq e1) (by omega)
       | some u=>
        have e1:(putK kvs' (Sum.inr (S (hs.getD d.b [])):Key) (V.int (v+d.t))).length=kvs'.length:=putK_old _ (by rw [T'.at_,hb'];rfl)
        have e2:(hs.map S).countP (fun k=>(D' k).isSome)≤(hs.map S).countP (fun k=>(M4.put D' (ed hs d).b (v+(ed hs d).t) k).isSome):=
         M4.count_le (fun k hk=>by unfold M4.put;split;rfl;exact hk) _
        exact Nat.le_trans (Nat.le_of_eq e1) (by omega)
      ·rcases hor with ⟨_,rfl,_⟩ | ⟨_,h2⟩
       ·exact hlt
       ·exact Nat.lt_trans hlt h2
    ·rintro σ' Hd ⟨kvs',D',ch',vr',rfl,sm',hk',T',len',mid',hor⟩
     refine ⟨kvs',D',ch',vr',rfl,sm',hk',T',len',mid',?_⟩
     rcases hor with ⟨rfl,rfl,ho⟩ | hor
     ·refine .inl ⟨rfl,rfl,fun e he=>?_⟩
      obtain ⟨d,hd,rfl⟩:=List.mem_map.mp he
      obtain ⟨j,hj⟩:=List.getElem?_of_mem hd
      refine ho j d ?_ hj
      have h1:=(List.getElem?_eq_some_iff.mp hj).1
      have h2:=hR.len
      rw [refs_len]
      omega
     ·exact .inr hor
end
end K1
namespace L3
open PySem PySem.Spec PyProof.Rows L2
section
variable {X:Cx}
noncomputable def tFzK (ts:TS):TS:=fun D σ H=>∃a kvs,H a=some (.dK kvs)∧∀o,ts ⟨fun σ' H'=>H' a=some (.frz o (.dK kvs))∧D.nx σ' (upd H' a (.dK kvs)),fun v H'=>H' a=some (.frz o (.dK kvs))∧D.rt v (upd H' a (.dK kvs)),fun σ' H'=>H' a=some (.frz o (.dK kvs))∧D.bk σ' (upd H' a (.dK kvs)),fun σ' H'=>H' a=some (.frz o (.dK kvs))∧D.ct σ' (upd H' a (.dK kvs))⟩ σ (upd H a (.frz o (.dK kvs)))
theorem ps_fzK {st:Stmt} {ts:TS} (hs:PS X st ts):PS X st (tFzK ts):=by
 intro pins s σ H D I h
 obtain ⟨a,kvs,ha,h⟩:=h
 have f1:∀xs,X.H₀ a≠some (.tup xs):=fun xs z=>by have:=I.base.tups a xs z;rw [ha] at this;cases this
 have f2:∀o v,X.H₀ a≠some (.frz o v):=fun o v z=>by have:=I.base.frzs a o v z;rw [ha] at this;cases this
 have f3:∀ps,X.H₀ a≠some (.tbl ps):=fun ps z=>by obtain ⟨m,e⟩:=I.base.tbls a ps z;rw [ha] at e;cases e
 have ok:=I.hok a _ ha
 obtain ⟨z,y,vs,rel,o,es,ep,e,c⟩:=id ok
 have I1:Inv X pins σ (upd H a (.frz o (.dK kvs))) s:=inv_re I ha (by intro _ w;cases w) (by intro _ w;cases w) ⟨e,z,y,vs,rel,o,es,ep,e,c⟩ f1 f2 f3
 have back:∀{σ':L2.St} {H':Hp} {s':Shared},Inv X pins σ' H' s'→H' a=some (.frz o (.dK kvs))→Inv X pins σ' (upd H' a (.dK kvs)) s':=fun {σ' H' s'} I2 ha1=>by
  obtain ⟨e1,z1,y1,vs1,rel1,o1,es1,ep1,e2,c1⟩:=I2.hok a _ ha1
  exact inv_re I2 (u':=.dK kvs) ha1 (by intro _ w;cases w) (by intro _ w;cases w) ⟨z1,y1,vs1,rel1,o1,es1,ep1,e2,c1⟩ f1 f2 f3
 refine thn (hs pins s σ _ _ I1 (h o)) fun f s1 q=>?_
 cases f with
 | next=>
  obtain ⟨σ',H',I2,ha1,q⟩:=q
  exact ⟨σ',_,back I2 ha1,q⟩
 | brk=>
  obtain ⟨σ',H',I2,ha1,q⟩:=q
  exact ⟨σ',_,back I2 ha1,q⟩
 | cont=>
  obtain ⟨σ',H',I2,ha1,q⟩:=q
  exact ⟨σ',_,back I2 ha1,q⟩
 | ret v=>
  obtain ⟨σ',x,H',I2,rv,ha1,q⟩:=q
  exact ⟨σ',x,_,back I2 ha1,rv,q⟩
end
noncomputable def Itkk (a:Addr) (o:Obj) (kvs:List (Key × V)):It:=
 ⟨fun i H=>H a=some (.frz o (.dK kvs))∧i < kvs.length,fun i H v H'=>H'=H∧∃k x,v=kV k∧kvs[i]?=some (k,x),fun i H=>H a=some (.frz o (.dK kvs))∧kvs.length≤i⟩
theorem held_dk {P:Program} {w:World} {H:Hp} {h:Heap} {a:Addr} {o:Obj} {kvs:List (Key × V)} (ok:HOk P w H h) (ha:H a=some (.frz o (.dK kvs))):h.get? a=some o∧(a==sysModules)=false∧o.ExactDict∧∃es ep,o.data=.dict es ep∧es.size=kvs.length∧
  ∀(i:Nat) (k:Key) (x:V),kvs[i]?=some (k,x)→∃hi:i < es.size,RelV (kV k) es[i].key:=by
 obtain ⟨e0,_,y,vs,rel,o',es,ep,e1,hx,hd,_,pr,_⟩:=ok a _ ha
 rw [e0] at e1
 cases e1
 have gen:∀{kvs:List (Key × V)} {ys:List (Key × Value)} {el:List DictEntry},KV kvs ys→Pairs (mixKind P w) el ys→el.length=kvs.length∧∀(i:Nat) (k:Key) (x:V),kvs[i]?=some (k,x)→∃e,el[i]?=some e∧RelV (kV k) e.key:=by
  intro kvs ys el rel pr
  induction pr generalizing kvs with
  | nil=>
   cases rel
   exact ⟨rfl,fun i k x e=>by simp at e⟩
  | @cons e kv el ys h1 h2 t ih=>
   cases rel with
   | @cons p q ps qs a b=>
    obtain ⟨l,f⟩:=ih b
    refine ⟨by rw [List.length_cons,List.length_cons,l],fun i k x ei=>?_⟩
    cases i with
    | zero=>
     simp only [List.getElem?_cons_zero,Option.some.injEq] at ei
     refine ⟨e,rfl,?_⟩
     have e1:kv.1=k:=by rw [←a.1,ei]
     rw [e1] at h1
     rcases keyIs_shape (show keyIs k e.key=true from h1) with ⟨n,t,rfl,ek⟩ | ⟨n,t,rfl,ek⟩
     ·exact ⟨t,ek⟩
     ·exact ⟨t,ek⟩
    | succ i=>exact f i k x (by simpa using ei)
 obtain ⟨l,f⟩:=gen rel pr
 refine ⟨e0,y,hx,es,ep,hd,by simpa using l,fun i k x hi=>?_⟩
 obtain ⟨e,ee,r⟩:=f i k x hi
 obtain ⟨h1,h2⟩:=List.getElem?_eq_some_iff.mp ee
 have h1':i < es.size:=by simpa using h1
 refine ⟨h1',?_⟩
 have:es[i]=e:=by simpa using h2
 rw [this]
 exact r
theorem turn_keysK {P:Program} {w:World} {K:PySem.W.Frag} {tg:Expr} {o:Obj} {kvs:List (Key × V)} {es:Array DictEntry} {ep:Nat} (a it:Addr) (hd:o.data=.dict es ep):
  Turn P w K tg (Itkk a o kvs) [it] it (fun i h=>h.IsKeyIter it a i es.size ep) where
 mem:=by simp
 obj:=fun i h st b hb=>by
  obtain rfl:b=it:=by simpa using hb
  obtain ⟨o,e,c,d⟩:=st
  exact ⟨o,e,fun v z=>by rw [d] at z;cases z⟩
 keep:=fun i h h' st k=>by
  obtain ⟨o,e,r⟩:=st
  exact ⟨o,k it (by simp) o e,r⟩
 item:=by
  intro X hP hw hK hc i pins s σ H E I hf st hg
  subst hP hw hK
  obtain ⟨ha,hi⟩:=hg
  obtain ⟨go,_,gx,es',ep',gd,gs,ge⟩:=held_dk I.hok ha
  rw [hd] at gd
  cases gd
  obtain ⟨kx,ekx⟩:∃q,kvs[i]?=some q:=⟨_,List.getElem?_eq_getElem hi⟩
  obtain ⟨hes,rk⟩:=ge i kx.1 kx.2 ekx
  obtain ⟨f0,f1,f2,f3,f4,f5⟩:=hf it (by simp)
  refine nx_key st ⟨o,go,gx,hd⟩ hes fun h' st' sb=>?_
  have I1:Inv X pins σ H {s with heap:=h'}:=I.turned (t':=s.toks) (fun b o hb e=>(sb.2 b hb).trans e) f0 f1 f3 f4 f5
  obtain ⟨oi,e,c,d⟩:=id st'
  exact ⟨_,rfl,go_of (s:={s with heap:=h'}) e c d (by decide) ⟨kV kx.1,H,I1,rk,⟨rfl,kx.1,kx.2,rfl,ekx⟩,st',fun b hb=>(hf b hb).1⟩⟩
 done:=by
  intro X hP hw hK hc i pins s σ H E I hf st hg
  subst hP hw hK
  obtain ⟨ha,hi⟩:=hg
  obtain ⟨go,_,gx,es',ep',gd,gs,ge⟩:=held_dk I.hok ha
  rw [hd] at gd
  cases gd
  obtain ⟨f0,f1,f2,f3,f4,f5⟩:=hf it (by simp)
  exact nx_kend (I.ok.hd hc) st ⟨o,go,gx,hd⟩ (by omega) fun h' eb=>⟨rfl,I.turned (t':=s.toks) (fun b o hb e=>eb b o hb e) f0 f1 f3 f4 f5⟩
 self:=fun A i s Q E st h=>by
  have T0:=st.typeIs
  refine wpAny_pyIter_slot T0 F.slot_dict_keyiterator_iter (wpAny_call_entry F.slot_dict_keyiterator_iter T0 F.entry_dict_keyiterator_iter ?_ (F.args_dict_keyiterator_iter_1 _))
  exact wpAny_pure ⟨_,rfl,"dict_keyiterator",_,T0,F.slot_dict_keyiterator_next.lookup,h⟩
section
variable {X:Cx} {tg:Expr}
noncomputable def iKeysK (td:TE):TI:=fun σ H R=>td σ H fun x H1=>∃a o kvs,x=.ref a∧H1 a=some (.frz o (.dK kvs))∧R (Itkk a o kvs) H1
theorem pi_keysK {o:Expr} {td:TE} (ho:PE X o td):PI X tg o (iKeysK td):=by
 intro pins s σ H R I h
 refine thn (ho pins s σ H _ I h) fun v s1 ⟨x,H1,I1,r1,a,ob,kvs,ex,ha,q1⟩=>?_
 subst ex
 cases r1
 obtain ⟨go,gy,gx,es,ep,gd,gs,ge⟩:=held_dk I1.hok ha
 refine it_keys gy ⟨ob,go,gx,gd⟩ ?_
 refine ⟨s1.heap.objs.size,[s1.heap.objs.size],_,_,H1,rfl,I1.kept (t':=s1.toks) fun b o e=>Heap.get?_push_of_some _ e,turn_keysK a _ gd,⟨_,Heap.get?_push_size _ rfl,rfl,rfl⟩,fun b hb=>?_,q1⟩
 obtain rfl:b=s1.heap.objs.size:=by simpa using hb
 exact I1.fpOk (Nat.le_refl _) (I1.hok.fresh (Nat.le_refl _))
end
theorem for_keysK {a:Addr} {o:Obj} {kvs:List (Key × V)} {g:TG} {tb:TS} {D:Ends} {σ:L2.St} {H:Hp} (Pv:Nat→L2.St→Hp→Prop) (h0:Pv 0 σ H) (hl:∀i σ H,Pv i σ H→H a=some (.frz o (.dK kvs)))
  (hs:∀i k x σ H,kvs[i]?=some (k,x)→Pv i σ H→g (kV k) σ H fun σ2 H2=>tb {D with nx:=Pv (i+1),ct:=Pv (i+1),bk:=D.nx} σ2 H2) (hd:∀σ H,Pv kvs.length σ H→D.nx σ H):
  ∃W:Nat→Nat→L2.St→Hp→Prop,(∃m,W 0 m σ H)∧∀i m σ H,W i m σ H→
   ((Itkk a o kvs).stop i H∧D.nx σ H)∨((Itkk a o kvs).go i H∧∃N:L2.St→Hp→Prop,(∀σ' H',N σ' H'→∃m',m' < m∧W (i+1) m' σ' H')∧∀x H',(Itkk a o kvs).yld i H x H'→g x σ H' fun σ2 H2=>tb {D with nx:=N,ct:=N,bk:=D.nx} σ2 H2):=by
 refine ⟨fun i m σ H=>m=kvs.length - i∧i≤kvs.length∧Pv i σ H,⟨kvs.length,by simp,Nat.zero_le _,h0⟩,?_⟩
 rintro i m σ H ⟨rfl,hi,p⟩
 have q:=hl i σ H p
 by_cases hlt:i < kvs.length
 ·refine .inr ⟨⟨q,hlt⟩,Pv (i+1),fun σ' H' p'=>⟨kvs.length - (i+1),by omega,rfl,hlt,p'⟩,fun v H' y=>?_⟩
  obtain ⟨rfl,k,x,rfl,ek⟩:=y
  exact hs i k x σ H' ek p
 ·have e:i=kvs.length:=by omega
  subst e
  exact .inl ⟨⟨q,Nat.le_refl _⟩,hd σ H p⟩
open PySem PySem.Spec PyProof.Rows L2
theorem bnd {α β:Type} {M:Model} {A:Around} {E:Value→Shared→Prop} {s:Shared} (c:Sem α) {k:α→Sem β} {Q:β→Shared→Prop} (h:wpAny M A c (fun a s'=>wpAny M A (k a) Q E s') E s):wpAny M A (c >>=k) Q E s:=wpAny_bind h
theorem ne_sz {h:Heap} {b:Addr} {o:Obj} (e:h.get? b=some o):b≠h.objs.size:=Nat.ne_of_lt (Heap.lt_size e)
theorem ne_sz1 {h:Heap} {b:Addr} {o:Obj} (e:h.get? b=some o):b≠h.objs.size+1:=Nat.ne_of_lt (Nat.lt_succ_of_lt (Heap.lt_size e))
theorem loop_max {prog:Program} {w:World} {A:Around} {R:Result→Shared→Prop} {I:Addr} {fp wr:List Addr} {n:Nat} {P:Nat→Value→Prop} {St:Nat→Heap→Prop} {d:Value} (W:Walks prog w A.in1 I fp wr n P St) (bt:Nat→Nat→Bool) (hc:CmpOf prog w A.in1 .Gt P bt) (S:Addr) (nS:S∉fp):
  ∀(k j:Nat) (s:Shared) (vb:Value) (c:Nat),n - (j+1)=k→j+1≤n→St (j+1) s.heap→P (argBest bt j) vb→s.heap.get? S=some ⟨.type "list",none,.seq #[vb,vb] c,#[]⟩→
   (∀v h' tk,P (argBest bt (n - 1)) v→(∀b o,b∉wr→b≠S→s.heap.get? b=some o→h'.get? b=some o)→R (.ok (.ret v)) {s with heap:=h',toks:=tk})→
   codeAny (model prog w) A (.builtin "max.loop" ⟨[.ref I,.none,.ref S],[(Str.ofString "default",d)]⟩) R s:=by
 have wS:S∉wr:=fun h=>nS (W.sub _ h)
 have nm:(toString "max"++toString ".loop":String)="max.loop":=by decide
 intro k
 induction k with
 | zero=>
  intro j s vb c hk hj st pb gS hR
  have en:j+1=n:=by omega
  refine codeAny_builtin PySem.F.entry_max_loop ?_
  rw [Around.under_plainId PySem.F.plain_max_loop _]
  refine bnd (seqItems? (.ref S)) (wpAny_seqItems gS rfl (bnd (tryCatch (pyNext (.ref I)) _) (wpAny_tryCatch (W.done s _ _ (en▸st) fun h' tk kk=>?_))))
  refine bnd (updateSeq S (fun _=>#[])) (wpAny_updateSeq (kk S _ wS gS) rfl (wpAny_bind (wpAny_letGo (wpAny_pure ?_))))
  exact hR vb _ tk (by rw [←en];exact pb) fun b o n1 n2 e=>(Heap.get?_update_other _ _ (Ne.symm n2)).trans (kk b o n1 e)
 | succ k ih=>
  intro j s vb c hk hj st pb gS hR
  have lt:j+1 < n:=by omega
  refine codeAny_builtin PySem.F.entry_max_loop ?_
  rw [Around.under_plainId PySem.F.plain_max_loop _]
  refine bnd (seqItems? (.ref S)) (wpAny_seqItems gS rfl (bnd (tryCatch (pyNext (.ref I)) _) (wpAny_tryCatch (W.item (j+1) s _ _ lt st fun v h' tk pv st' kk=>?_))))
  have gS':=kk S _ wS gS
  refine bnd (tryCatch (holding [v,v] (richCompare .Gt v vb >>=_)) _) (wpAny_tryCatch (wpAny_holding (wpAny_bind (hc (j+1) (argBest bt j) v vb _ _ _ pv pb (wpAny_bind (wpAny_holding (wpAny_truthy_bool (wpAny_bind (wpAny_letGo (wpAny_pure ?_))))))))))
  cases hb:bt (j+1) (argBest bt j) with
  | true=>
   simp only [if_true]
   refine wpAny_bind (wpAny_updateSeq gS' rfl (wpAny_bind (wpAny_letGo ?_)))
   rw [nm]
   refine wpAny_pure ⟨plainId_quiet PySem.F.plain_max_loop _,ih (j+1) _ v _ (by omega) lt (W.frame _ _ _ st' fun b bf o e=>(Heap.get?_update_other _ _ (fun h:S=b=>nS (by rw [h];exact bf))).trans e) (by simp only [argBest,hb,if_true];exact pv) (Heap.get?_update_self _ gS' rfl) fun v2 h2 tk2 pv2 kk2=>?_⟩
   exact hR v2 h2 tk2 pv2 fun b o n1 n2 e=>kk2 b o n1 n2 ((Heap.get?_update_other _ _ (Ne.symm n2)).trans (kk b o n1 e))
  | false=>
   simp only [Bool.false_eq_true,if_false]
   refine wpAny_bind (wpAny_letGo ?_)
   rw [nm]
   exact wpAny_pure ⟨plainId_quiet PySem.F.plain_max_loop _,ih (j+1) _ vb c (by omega) lt st' (by simp only [argBest,hb,Bool.false_eq_true,if_false];exact pb) gS' fun v2 h2 tk2 pv2 kk2=>hR v2 h2 tk2 pv2 fun b o n1 n2 e=>kk2 b o n1 n2 (kk b o n1 e)⟩
theorem first_max {prog:Program} {w:World} {A:Around} {R:Result→Shared→Prop} {I:Addr} {fp wr:List Addr} {n:Nat} {P:Nat→Value→Prop} {St:Nat→Heap→Prop} {d:Value} (W:Walks prog w A.in1 I fp wr n P St) (bt:Nat→Nat→Bool) (hc:CmpOf prog w A.in1 .Gt P bt) (S:Addr) (nS:S∉fp) {s:Shared} {c:Nat} (st:St 0 s.heap)
  (gS:s.heap.get? S=some ⟨.type "list",none,.seq #[] c,#[]⟩)
  (h0:n=0→∀h' tk,(∀b o,b∉wr→b≠S→s.heap.get? b=some o→h'.get? b=some o)→R (.ok (.ret d)) {s with heap:=h',toks:=tk})
  (h1:0 < n→∀v h' tk,P (argBest bt (n - 1)) v→(∀b o,b∉wr→b≠S→s.heap.get? b=some o→h'.get? b=some o)→R (.ok (.ret v)) {s with heap:=h',toks:=tk}):
  codeAny (model prog w) A (.builtin "max.loop" ⟨[.ref I,.none,.ref S],[(Str.ofString "default",d)]⟩) R s:=by
 have wS:S∉wr:=fun h=>nS (W.sub _ h)
 have nm:(toString "max"++toString ".loop":String)="max.loop":=by decide
 refine codeAny_builtin PySem.F.entry_max_loop ?_
 rw [Around.under_plainId PySem.F.plain_max_loop _]
 refine bnd (seqItems? (.ref S)) (wpAny_seqItems gS rfl ?_)
 by_cases hz:n=0
 ·refine bnd (tryCatch (pyNext (.ref I)) _) (wpAny_tryCatch (W.done s _ _ (hz▸st) fun h' tk kk=>?_))
  refine wpAny_bind (wpAny_rule (wpAny_pure ?_))
  exact h0 hz h' tk fun b o n1 _ e=>kk b o n1 e
 ·refine bnd (tryCatch (pyNext (.ref I)) _) (wpAny_tryCatch (W.item 0 s _ _ (Nat.pos_of_ne_zero hz) st fun v h' tk pv st' kk=>?_))
  have gS':=kk S _ wS gS
  refine bnd (updateSeq S (fun _=>#[v,v])) (wpAny_updateSeq gS' rfl ?_)
  rw [nm]
  refine wpAny_pure ⟨plainId_quiet PySem.F.plain_max_loop _,loop_max W bt hc S nS _ 0 _ v _ rfl (Nat.pos_of_ne_zero hz) (W.frame _ _ _ st' fun b bf o e=>(Heap.get?_update_other _ _ (fun h:S=b=>nS (by rw [h];exact bf))).trans e) pv (Heap.get?_update_self _ gS' rfl) fun v2 h2 tk2 pv2 kk2=>?_⟩
  exact h1 (Nat.pos_of_ne_zero hz) v2 h2 tk2 pv2 fun b o n1 n2 e=>kk2 b o n1 n2 ((Heap.get?_update_other _ _ (Ne.symm n2)).trans (kk b o n1 e))
theorem args_maxd (a v:Value):argsOk "max" ⟨[a],[(Str.ofString "default",v)]⟩:=by unfold argsOk;kernel_rfl
theorem run_maxd {prog:Program} {w:World} {A:Around} {E:Value→Shared→Prop} {s:Shared} {l:Addr} {items:Array Value} {val:Nat→Int} {d:Value} {Q:Value→Shared→Prop} (hh:A.in1.handled=none) (hl:s.heap.IsList l items) (hv:∀i v,items[i]?=some v→∃t,v=Value.int (val i) t)
  (h0:items.size=0→∀h' tk,(∀b o,s.heap.get? b=some o→h'.get? b=some o)→Q d {s with heap:=h',toks:=tk})
  (h1:0 < items.size→∀t h' tk,(∀b o,s.heap.get? b=some o→h'.get? b=some o)→Q (Value.int (val (argBest (fun i j=>decide (val i > val j)) (items.size - 1))) t) {s with heap:=h',toks:=tk}):
  wpAny (model prog w) A (call (.builtin "max") [.ref l] [(Str.ofString "default",d)]) Q E s:=by
 have nm:(toString "max"++toString ".loop":String)="max.loop":=by decide
 obtain ⟨ol,hol,_⟩:=id hl
 have hne:l≠s.heap.objs.size:=Nat.ne_of_lt (Heap.lt_size hol)
 refine PyProof.Rows.kmk_tree PySem.F.kind_max PySem.F.plain_max PySem.F.entry_max (args_maxd _ _) ?_
 refine bnd (Builtin.Builtins.bindParams "max" ["key","default"] 0 ⟨[],[(Str.ofString "default",d)]⟩) (wpAny_of_eq (show _=pure [none,some d] from rfl) ?_)
 refine wpAny_bind (wpAny_pure ?_)
 refine wpAny_bind (wpAny_pyIter_list hl ?_)
 refine wpAny_bind (wpAny_newObj_type ?_)
 rw [nm]
 have W:=Walks.list (prog:=prog) (w:=w) (A:=A.in1) hh s.heap.objs.size l hne items
 have sz:(s.heap.push {cls:=.type "list_iterator",data:=.fields #[.ref l,.int 0 0]}).objs.size=s.heap.objs.size+1:=Heap.size_push ..
 have hlt:=Heap.lt_size hol
 have gI:(s.heap.push {cls:=.type "list_iterator",data:=.fields #[.ref l,.int 0 0]}).get? s.heap.objs.size=some {cls:=.type "list_iterator",data:=.fields #[.ref l,.int 0 0]}:=Heap.get?_push_size _ rfl
 have hl1:=hl.push {cls:=.type "list_iterator",data:=.fields #[.ref l,.int 0 0]}
 have k1:∀b o,s.heap.get? b=some o→(s.heap.push {cls:=.type "list_iterator",data:=.fields #[.ref l,.int 0 0]}).get? b=some o:=fun b o e=>Heap.get?_push_of_some _ e
 dsimp only
 generalize s.heap.push {cls:=.type "list_iterator",data:=.fields #[.ref l,.int 0 0]}=hp1 at sz gI hl1 k1 ⊢
 refine wpAny_pure ⟨plainId_quiet PySem.F.plain_max_loop _,first_max W _ (CmpOf.ints_gt val hv) hp1.objs.size (by rw [sz];simp only [List.mem_cons,List.not_mem_nil,or_false,not_or];exact ⟨Nat.succ_ne_self _,Ne.symm (ne_sz1 hol)⟩) ⟨⟨_,Heap.get?_push_of_some _ gI,rfl,rfl⟩,hl1.push _⟩ (Heap.get?_push_size _ rfl) (fun hz h' tk kk=>?_) fun hz v h' tk pv kk=>?_⟩
 ·exact h0 hz h' tk fun b o e=>kk b o (by simp only [List.mem_cons,List.not_mem_nil,or_false];exact ne_sz e) (by rw [sz];exact ne_sz1 e) (Heap.get?_push_of_some _ (k1 b o e))
 ·obtain ⟨t2,rfl⟩:=hv _ v pv
  exact h1 hz t2 h' tk fun b o e=>kk b o (by simp only [List.mem_cons,List.not_mem_nil,or_false];exact ne_sz e) (by rw [sz];exact ne_sz1 e) (Heap.get?_push_of_some _ (k1 b o e))
theorem loop_min {prog:Program} {w:World} {A:Around} {R:Result→Shared→Prop} {I:Addr} {fp wr:List Addr} {n:Nat} {P:Nat→Value→Prop} {St:Nat→Heap→Prop} {d:Value} (W:Walks prog w A.in1 I fp wr n P St) (bt:Nat→Nat→Bool) (hc:CmpOf prog w A.in1 .Lt P bt) (S:Addr) (nS:S∉fp):
  ∀(k j:Nat) (s:Shared) (vb:Value) (c:Nat),n - (j+1)=k→j+1≤n→St (j+1) s.heap→P (argBest bt j) vb→s.heap.get? S=some ⟨.type "list",none,.seq #[vb,vb] c,#[]⟩→
   (∀v h' tk,P (argBest bt (n - 1)) v→(∀b o,b∉wr→b≠S→s.heap.get? b=some o→h'.get? b=some o)→R (.ok (.ret v)) {s with heap:=h',toks:=tk})→
   codeAny (model prog w) A (.builtin "min.loop" ⟨[.ref I,.none,.ref S],[(Str.ofString "default",d)]⟩) R s:=by
 have wS:S∉wr:=fun h=>nS (W.sub _ h)
 have nm:(toString "min"++toString ".loop":String)="min.loop":=by decide
 intro k
 induction k with
 | zero=>
  intro j s vb c hk hj st pb gS hR
  have en:j+1=n:=by omega
  refine codeAny_builtin PySem.F.entry_min_loop ?_
  rw [Around.under_plainId PySem.F.plain_min_loop _]
  refine bnd (seqItems? (.ref S)) (wpAny_seqItems gS rfl (bnd (tryCatch (pyNext (.ref I)) _) (wpAny_tryCatch (W.done s _ _ (en▸st) fun h' tk kk=>?_))))
  refine bnd (updateSeq S (fun _=>#[])) (wpAny_updateSeq (kk S _ wS gS) rfl (wpAny_bind (wpAny_letGo (wpAny_pure ?_))))
  exact hR vb _ tk (by rw [←en];exact pb) fun b o n1 n2 e=>(Heap.get?_update_other _ _ (Ne.symm n2)).trans (kk b o n1 e)
 | succ k ih=>
  intro j s vb c hk hj st pb gS hR
  have lt:j+1 < n:=by omega
  refine codeAny_builtin PySem.F.entry_min_loop ?_
  rw [Around.under_plainId PySem.F.plain_min_loop _]
  refine bnd (seqItems? (.ref S)) (wpAny_seqItems gS rfl (bnd (tryCatch (pyNext (.ref I)) _) (wpAny_tryCatch (W.item (j+1) s _ _ lt st fun v h' tk pv st' kk=>?_))))
  have gS':=kk S _ wS gS
  refine bnd (tryCatch (holding [v,v] (richCompare .Lt v vb >>=_)) _) (wpAny_tryCatch (wpAny_holding (wpAny_bind (hc (j+1) (argBest bt j) v vb _ _ _ pv pb (wpAny_bind (wpAny_holding (wpAny_truthy_bool (wpAny_bind (wpAny_letGo (wpAny_pure ?_))))))))))
  cases hb:bt (j+1) (argBest bt j) with
  | true=>
   simp only [if_true]
   refine wpAny_bind (wpAny_updateSeq gS' rfl (wpAny_bind (wpAny_letGo ?_)))
   rw [nm]
   refine wpAny_pure ⟨plainId_quiet PySem.F.plain_min_loop _,ih (j+1) _ v _ (by omega) lt (W.frame _ _ _ st' fun b bf o e=>(Heap.get?_update_other _ _ (fun h:S=b=>nS (by rw [h];exact bf))).trans e) (by simp only [argBest,hb,if_true];exact pv) (Heap.get?_update_self _ gS' rfl) fun v2 h2 tk2 pv2 kk2=>?_⟩
   exact hR v2 h2 tk2 pv2 fun b o n1 n2 e=>kk2 b o n1 n2 ((Heap.get?_update_other _ _ (Ne.symm n2)).trans (kk b o n1 e))
  | false=>
   simp only [Bool.false_eq_true,if_false]
   refine wpAny_bind (wpAny_letGo ?_)
   rw [nm]
   exact wpAny_pure ⟨plainId_quiet PySem.F.plain_min_loop _,ih (j+1) _ vb c (by omega) lt st' (by simp only [argBest,hb,Bool.false_eq_true,if_false];exact pb) gS' fun v2 h2 tk2 pv2 kk2=>hR v2 h2 tk2 pv2 fun b o n1 n2 e=>kk2 b o n1 n2 (kk b o n1 e)⟩
theorem first_min {prog:Program} {w:World} {A:Around} {R:Result→Shared→Prop} {I:Addr} {fp wr:List Addr} {n:Nat} {P:Nat→Value→Prop} {St:Nat→Heap→Prop} {d:Value} (W:Walks prog w A.in1 I fp wr n P St) (bt:Nat→Nat→Bool) (hc:CmpOf prog w A.in1 .Lt P bt) (S:Addr) (nS:S∉fp) {s:Shared} {c:Nat} (st:St 0 s.heap)
  (gS:s.heap.get? S=some ⟨.type "list",none,.seq #[] c,#[]⟩)
  (h0:n=0→∀h' tk,(∀b o,b∉wr→b≠S→s.heap.get? b=some o→h'.get? b=some o)→R (.ok (.ret d)) {s with heap:=h',toks:=tk})
  (h1:0 < n→∀v h' tk,P (argBest bt (n - 1)) v→(∀b o,b∉wr→b≠S→s.heap.get? b=some o→h'.get? b=some o)→R (.ok (.ret v)) {s with heap:=h',toks:=tk}):
  codeAny (model prog w) A (.builtin "min.loop" ⟨[.ref I,.none,.ref S],[(Str.ofString "default",d)]⟩) R s:=by
 have wS:S∉wr:=fun h=>nS (W.sub _ h)
 have nm:(toString "min"++toString ".loop":String)="min.loop":=by decide
 refine codeAny_builtin PySem.F.entry_min_loop ?_
 rw [Around.under_plainId PySem.F.plain_min_loop _]
 refine bnd (seqItems? (.ref S)) (wpAny_seqItems gS rfl ?_)
 by_cases hz:n=0
 ·refine bnd (tryCatch (pyNext (.ref I)) _) (wpAny_tryCatch (W.done s _ _ (hz▸st) fun h' tk kk=>?_))
  refine wpAny_bind (wpAny_rule (wpAny_pure ?_))
  exact h0 hz h' tk fun b o n1 _ e=>kk b o n1 e
 ·refine bnd (tryCatch (pyNext (.ref I)) _) (wpAny_tryCatch (W.item 0 s _ _ (Nat.pos_of_ne_zero hz) st fun v h' tk pv st' kk=>?_))
  have gS':=kk S _ wS gS
  refine bnd (updateSeq S (fun _=>#[v,v])) (wpAny_updateSeq gS' rfl ?_)
  rw [nm]
  refine wpAny_pure ⟨plainId_quiet PySem.F.plain_min_loop _,loop_min W bt hc S nS _ 0 _ v _ rfl (Nat.pos_of_ne_zero hz) (W.frame _ _ _ st' fun b bf o e=>(Heap.get?_update_other _ _ (fun h:S=b=>nS (by rw [h];exact bf))).trans e) pv (Heap.get?_update_self _ gS' rfl) fun v2 h2 tk2 pv2 kk2=>?_⟩
  exact h1 (Nat.pos_of_ne_zero hz) v2 h2 tk2 pv2 fun b o n1 n2 e=>kk2 b o n1 n2 ((Heap.get?_update_other _ _ (Ne.symm n2)).trans (kk b o n1 e))
theorem args_mind (a v:Value):argsOk "min" ⟨[a],[(Str.ofString "default",v)]⟩:=by unfold argsOk;kernel_rfl
theorem run_mind {prog:Program} {w:World} {A:Around} {E:Value→Shared→Prop} {s:Shared} {l:Addr} {items:Array Value} {val:Nat→Int} {d:Value} {Q:Value→Shared→Prop} (hh:A.in1.handled=none) (hl:s.heap.IsList l items) (hv:∀i v,items[i]?=some v→∃t,v=Value.int (val i) t)
  (h0:items.size=0→∀h' tk,(∀b o,s.heap.get? b=some o→h'.get? b=some o)→Q d {s with heap:=h',toks:=tk})
  (h1:0 < items.size→∀t h' tk,(∀b o,s.heap.get? b=some o→h'.get? b=some o)→Q (Value.int (val (argBest (fun i j=>decide (val i < val j)) (items.size - 1))) t) {s with heap:=h',toks:=tk}):
  wpAny (model prog w) A (call (.builtin "min") [.ref l] [(Str.ofString "default",d)]) Q E s:=by
 have nm:(toString "min"++toString ".loop":String)="min.loop":=by decide
 obtain ⟨ol,hol,_⟩:=id hl
 have hne:l≠s.heap.objs.size:=Nat.ne_of_lt (Heap.lt_size hol)
 refine PyProof.Rows.kmk_tree PySem.F.kind_min PySem.F.plain_min PySem.F.entry_min (args_mind _ _) ?_
 refine bnd (Builtin.Builtins.bindParams "min" ["key","default"] 0 ⟨[],[(Str.ofString "default",d)]⟩) (wpAny_of_eq (show _=pure [none,some d] from rfl) ?_)
 refine wpAny_bind (wpAny_pure ?_)
 refine wpAny_bind (wpAny_pyIter_list hl ?_)
 refine wpAny_bind (wpAny_newObj_type ?_)
 rw [nm]
 have W:=Walks.list (prog:=prog) (w:=w) (A:=A.in1) hh s.heap.objs.size l hne items
 have sz:(s.heap.push {cls:=.type "list_iterator",data:=.fields #[.ref l,.int 0 0]}).objs.size=s.heap.objs.size+1:=Heap.size_push ..
 have hlt:=Heap.lt_size hol
 have gI:(s.heap.push {cls:=.type "list_iterator",data:=.fields #[.ref l,.int 0 0]}).get? s.heap.objs.size=some {cls:=.type "list_iterator",data:=.fields #[.ref l,.int 0 0]}:=Heap.get?_push_size _ rfl
 have hl1:=hl.push {cls:=.type "list_iterator",data:=.fields #[.ref l,.int 0 0]}
 have k1:∀b o,s.heap.get? b=some o→(s.heap.push {cls:=.type "list_iterator",data:=.fields #[.ref l,.int 0 0]}).get? b=some o:=fun b o e=>Heap.get?_push_of_some _ e
 dsimp only
 generalize s.heap.push {cls:=.type "list_iterator",data:=.fields #[.ref l,.int 0 0]}=hp1 at sz gI hl1 k1 ⊢
 refine wpAny_pure ⟨plainId_quiet PySem.F.plain_min_loop _,first_min W _ (CmpOf.ints_lt val hv) hp1.objs.size (by rw [sz];simp only [List.mem_cons,List.not_mem_nil,or_false,not_or];exact ⟨Nat.succ_ne_self _,Ne.symm (ne_sz1 hol)⟩) ⟨⟨_,Heap.get?_push_of_some _ gI,rfl,rfl⟩,hl1.push _⟩ (Heap.get?_push_size _ rfl) (fun hz h' tk kk=>?_) fun hz v h' tk pv kk=>?_⟩
 ·exact h0 hz h' tk fun b o e=>kk b o (by simp only [List.mem_cons,List.not_mem_nil,or_false];exact ne_sz e) (by rw [sz];exact ne_sz1 e) (Heap.get?_push_of_some _ (k1 b o e))
 ·obtain ⟨t2,rfl⟩:=hv _ v pv
  exact h1 hz t2 h' tk fun b o e=>kk b o (by simp only [List.mem_cons,List.not_mem_nil,or_false];exact ne_sz e) (by rw [sz];exact ne_sz1 e) (Heap.get?_push_of_some _ (k1 b o e))
noncomputable def tMM (K:PySem.W.Frag) (f:List Int→Int) (t:TA) (td:TE):TE:=fun σ H Q=>t σ H fun vs H1=>tCons td tNil σ H1 fun zs H2=>∃dv a ns,zs=[dv]∧vs=[.ref a]∧SqL K H2 a (ns.map V.int)∧(ns=[]→Q dv H2)∧(ns≠[]→Q (.int (f ns)) H2)
theorem best_of {val:Nat→Int}:∀k,argBest (fun i j=>decide (val i > val j)) k≤k∧∀j,j≤k→val j≤val (argBest (fun i j=>decide (val i > val j)) k)
 | 0=>⟨Nat.le_refl _,fun j h=>by rw [Nat.le_zero.mp h];exact Int.le_refl _⟩
 | k+1=>by
  obtain ⟨a,b⟩:=best_of (val:=val) k
  simp only [argBest]
  by_cases h:val (k+1) > val (argBest (fun i j=>decide (val i > val j)) k)
  ·rw [if_pos (decide_eq_true h)]
   refine ⟨Nat.le_refl _,fun j hj=>?_⟩
   rcases Nat.lt_or_ge j (k+1) with h1 | h1
   ·exact Int.le_trans (b j (by omega)) (Int.le_of_lt h)
   ·rw [show j=k+1 by omega];exact Int.le_refl _
  ·rw [if_neg (by rw [decide_eq_false h];exact Bool.false_ne_true)]
   refine ⟨by omega,fun j hj=>?_⟩
   rcases Nat.lt_or_ge j (k+1) with h1 | h1
   ·exact b j (by omega)
   ·rw [show j=k+1 by omega];omega
theorem least_of {val:Nat→Int}:∀k,argBest (fun i j=>decide (val i < val j)) k≤k∧∀j,j≤k→val (argBest (fun i j=>decide (val i < val j)) k)≤val j
 | 0=>⟨Nat.le_refl _,fun j h=>by rw [Nat.le_zero.mp h];exact Int.le_refl _⟩
 | k+1=>by
  obtain ⟨a,b⟩:=least_of (val:=val) k
  simp only [argBest]
  by_cases h:val (k+1) < val (argBest (fun i j=>decide (val i < val j)) k)
  ·rw [if_pos (decide_eq_true h)]
   refine ⟨Nat.le_refl _,fun j hj=>?_⟩
   rcases Nat.lt_or_ge j (k+1) with h1 | h1
   ·exact Int.le_trans (Int.le_of_lt h) (b j (by omega))
   ·rw [show j=k+1 by omega];exact Int.le_refl _
  ·rw [if_neg (by rw [decide_eq_false h];exact Bool.false_ne_true)]
   refine ⟨by omega,fun j hj=>?_⟩
   rcases Nat.lt_or_ge j (k+1) with h1 | h1
   ·exact b j (by omega)
   ·rw [show j=k+1 by omega];omega
noncomputable def L_max (ns:List Int):Int:=ns.getD (argBest (fun i j=>decide (ns.getD i 0 > ns.getD j 0)) (ns.length - 1)) 0
theorem bt_max:bootBuiltins "max"=some (.builtin "max"):=by decide+kernel
theorem pe_maxd {X:Cx} {e e2:Expr} {p kp pos:Pos} {t:TA} {td:TE} (hc:X.calm=true) (hg:Gl X "max") (hm:X.mg "max"=none) (ha:PA X [e] t) (hd:PE X e2 td)
  (hall:(backToKw pos (keywordEach [⟨some "default",e2,kp⟩] X.env)).all (·.1.isSome)=true:=by rfl) (hks:(backToKw pos (keywordEach [⟨some "default",e2,kp⟩] X.env)).filterMap (·.1)=[Str.ofString "default"]:=by rfl)
  (he:starEach [e] X.env=(false,eval e X.env)::starEach [] X.env:=by rfl) (hpl:(backTo pos (starEach [e] X.env)).any (·.1)=false:=by rfl) (hkw:(backToKw pos (keywordEach [⟨some "default",e2,kp⟩] X.env)).any (·.1.isNone)=false:=by rfl):
  PE X (.Call (.Name "max" p) [e] [⟨some "default",e2,kp⟩] pos) (tMM X.K L_max t td):=by
 intro pins s σ H Q I h
 refine wpAny_Call_Name_kw (ld_blt I hg hm bt_max ?_ (by decide) (by decide))
 refine callWith_builtin_kwB hpl hkw (evalArgs_kw2 hall (thn (ha pos pins s σ H _ I h) fun us s1 ⟨vs,H1,I1,r,q⟩=>thn ((pk_cons hd pk_nil) pos pins s1 σ H1 _ I1 q) fun ws s2 ⟨zs,H2,I2,rz,q2⟩=>?_) he)
 obtain ⟨dv,a,ns,rfl,rfl,hq,q0,q1⟩:=q2
 obtain ⟨u,rfl,ru⟩:=vals1 r
 obtain ⟨w',rfl,rw'⟩:=vals1 rz
 cases ru
 rw [hks]
 obtain ⟨its,rv,pl,hz⟩:=I2.list hq
 have hlen:ns.length=its.length:=by have:=rv.length;rwa [List.length_map] at this
 refine run_maxd (val:=fun i=>ns.getD i 0) (items:=its.toArray) (I2.ok.hd hc) pl.isList (fun i v ev=>?_) (fun z h' tk kk=>?_) fun z t h' tk kk=>?_
 ·have ev':its[i]?=some v:=by simpa using ev
  have hi:i < ns.length:=by rw [hlen];exact (List.getElem?_eq_some_iff.mp ev').1
  obtain ⟨u',e',r'⟩:=rv.get (x:=V.int (ns.getD i 0)) (i:=i) (by rw [List.getElem?_map,List.getElem?_eq_getElem hi];simp [List.getD,hi])
  rw [ev'] at e'
  cases e'
  exact r'
 ·have z':ns=[]:=List.length_eq_zero_iff.mp (by rw [hlen];simpa using z)
  exact ⟨dv,H2,I2.kept kk,rw',q0 z'⟩
 ·have z':ns≠[]:=fun e=>by
   rw [e] at hlen
   have:its=[]:=List.length_eq_zero_iff.mp hlen.symm
   rw [this] at z
   simp at z
  refine ⟨.int (L_max ns),H2,I2.kept kk,⟨t,?_⟩,q1 z'⟩
  unfold L_max
  rw [hlen]
  simp
noncomputable def L_min (ns:List Int):Int:=ns.getD (argBest (fun i j=>decide (ns.getD i 0 < ns.getD j 0)) (ns.length - 1)) 0
theorem bt_min:bootBuiltins "min"=some (.builtin "min"):=by decide+kernel
theorem pe_mind {X:Cx} {e e2:Expr} {p kp pos:Pos} {t:TA} {td:TE} (hc:X.calm=true) (hg:Gl X "min") (hm:X.mg "min"=none) (ha:PA X [e] t) (hd:PE X e2 td)
  (hall:(backToKw pos (keywordEach [⟨some "default",e2,kp⟩] X.env)).all (·.1.isSome)=true:=by rfl) (hks:(backToKw pos (keywordEach [⟨some "default",e2,kp⟩] X.env)).filterMap (·.1)=[Str.ofString "default"]:=by rfl)
  (he:starEach [e] X.env=(false,eval e X.env)::starEach [] X.env:=by rfl) (hpl:(backTo pos (starEach [e] X.env)).any (·.1)=false:=by rfl) (hkw:(backToKw pos (keywordEach [⟨some "default",e2,kp⟩] X.env)).any (·.1.isNone)=false:=by rfl):
  PE X (.Call (.Name "min" p) [e] [⟨some "default",e2,kp⟩] pos) (tMM X.K L_min t td):=by
 intro pins s σ H Q I h
 refine wpAny_Call_Name_kw (ld_blt I hg hm bt_min ?_ (by decide) (by decide))
 refine callWith_builtin_kwB hpl hkw (evalArgs_kw2 hall (thn (ha pos pins s σ H _ I h) fun us s1 ⟨vs,H1,I1,r,q⟩=>thn ((pk_cons hd pk_nil) pos pins s1 σ H1 _ I1 q) fun ws s2 ⟨zs,H2,I2,rz,q2⟩=>?_) he)
 obtain ⟨dv,a,ns,rfl,rfl,hq,q0,q1⟩:=q2
 obtain ⟨u,rfl,ru⟩:=vals1 r
 obtain ⟨w',rfl,rw'⟩:=vals1 rz
 cases ru
 rw [hks]
 obtain ⟨its,rv,pl,hz⟩:=I2.list hq
 have hlen:ns.length=its.length:=by have:=rv.length;rwa [List.length_map] at this
 refine run_mind (val:=fun i=>ns.getD i 0) (items:=its.toArray) (I2.ok.hd hc) pl.isList (fun i v ev=>?_) (fun z h' tk kk=>?_) fun z t h' tk kk=>?_
 ·have ev':its[i]?=some v:=by simpa using ev
  have hi:i < ns.length:=by rw [hlen];exact (List.getElem?_eq_some_iff.mp ev').1
  obtain ⟨u',e',r'⟩:=rv.get (x:=V.int (ns.getD i 0)) (i:=i) (by rw [List.getElem?_map,List.getElem?_eq_getElem hi];simp [List.getD,hi])
  rw [ev'] at e'
  cases e'
  exact r'
 ·have z':ns=[]:=List.length_eq_zero_iff.mp (by rw [hlen];simpa using z)
  exact ⟨dv,H2,I2.kept kk,rw',q0 z'⟩
 ·have z':ns≠[]:=fun e=>by
   rw [e] at hlen
   have:its=[]:=List.length_eq_zero_iff.mp hlen.symm
   rw [this] at z
   simp at z
  refine ⟨.int (L_min ns),H2,I2.kept kk,⟨t,?_⟩,q1 z'⟩
  unfold L_min
  rw [hlen]
  simp
theorem max_is {ns:List Int} (h:ns≠[]):L_max ns∈ns∧∀x∈ns,x≤L_max ns:=by
 have hp:0 < ns.length:=List.length_pos_iff.mpr h
 obtain ⟨a,b⟩:=best_of (val:=fun i=>ns.getD i 0) (ns.length - 1)
 have hi:argBest (fun i j=>decide (ns.getD i 0 > ns.getD j 0)) (ns.length - 1) < ns.length:=by omega
 refine ⟨?_,fun x hx=>?_⟩
 ·unfold L_max
  rw [List.getD,List.getElem?_eq_getElem hi]
  exact List.getElem_mem hi
 ·obtain ⟨j,hj,rfl⟩:=List.mem_iff_getElem.mp hx
  have:=b j (by omega)
  have e:ns.getD j 0=ns[j]:=by rw [List.getD,List.getElem?_eq_getElem hj];rfl
  rw [←e]
  exact this
theorem min_is {ns:List Int} (h:ns≠[]):L_min ns∈ns∧∀x∈ns,L_min ns≤x:=by
 have hp:0 < ns.length:=List.length_pos_iff.mpr h
 obtain ⟨a,b⟩:=least_of (val:=fun i=>ns.getD i 0) (ns.length - 1)
 have hi:argBest (fun i j=>decide (ns.getD i 0 < ns.getD j 0)) (ns.length - 1) < ns.length:=by omega
 refine ⟨?_,fun x hx=>?_⟩
 ·unfold L_min
  rw [List.getD,List.getElem?_eq_getElem hi]
  exact List.getElem_mem hi
 ·obtain ⟨j,hj,rfl⟩:=List.mem_iff_getElem.mp hx
  have:=b j (by omega)
  have e:ns.getD j 0=ns[j]:=by rw [List.getD,List.getElem?_eq_getElem hj];rfl
  rw [←e]
  exact this
theorem loop_minN {prog:Program} {w:World} {A:Around} {R:Result→Shared→Prop} {I:Addr} {fp wr:List Addr} {n:Nat} {P:Nat→Value→Prop} {St:Nat→Heap→Prop} (W:Walks prog w A.in1 I fp wr n P St) (bt:Nat→Nat→Bool) (hc:CmpOf prog w A.in1 .Lt P bt) (S:Addr) (nS:S∉fp):
  ∀(k j:Nat) (s:Shared) (vb:Value) (c:Nat),n - (j+1)=k→j+1≤n→St (j+1) s.heap→P (argBest bt j) vb→s.heap.get? S=some ⟨.type "list",none,.seq #[vb,vb] c,#[]⟩→
   (∀v h' tk,P (argBest bt (n - 1)) v→(∀b o,b∉wr→b≠S→s.heap.get? b=some o→h'.get? b=some o)→R (.ok (.ret v)) {s with heap:=h',toks:=tk})→
   codeAny (model prog w) A (.builtin "min.loop" ⟨[.ref I,.none,.ref S],[]⟩) R s:=by
 have wS:S∉wr:=fun h=>nS (W.sub _ h)
 have nm:(toString "min"++toString ".loop":String)="min.loop":=by decide
 intro k
 induction k with
 | zero=>
  intro j s vb c hk hj st pb gS hR
  have en:j+1=n:=by omega
  refine codeAny_builtin PySem.F.entry_min_loop ?_
  rw [Around.under_plainId PySem.F.plain_min_loop _]
  refine bnd (seqItems? (.ref S)) (wpAny_seqItems gS rfl (bnd (tryCatch (pyNext (.ref I)) _) (wpAny_tryCatch (W.done s _ _ (en▸st) fun h' tk kk=>?_))))
  refine bnd (updateSeq S (fun _=>#[])) (wpAny_updateSeq (kk S _ wS gS) rfl (wpAny_bind (wpAny_letGo (wpAny_pure ?_))))
  exact hR vb _ tk (by rw [←en];exact pb) fun b o n1 n2 e=>(Heap.get?_update_other _ _ (Ne.symm n2)).trans (kk b o n1 e)
 | succ k ih=>
  intro j s vb c hk hj st pb gS hR
  have lt:j+1 < n:=by omega
  refine codeAny_builtin PySem.F.entry_min_loop ?_
  rw [Around.under_plainId PySem.F.plain_min_loop _]
  refine bnd (seqItems? (.ref S)) (wpAny_seqItems gS rfl (bnd (tryCatch (pyNext (.ref I)) _) (wpAny_tryCatch (W.item (j+1) s _ _ lt st fun v h' tk pv st' kk=>?_))))
  have gS':=kk S _ wS gS
  refine bnd (tryCatch (holding [v,v] (richCompare .Lt v vb >>=_)) _) (wpAny_tryCatch (wpAny_holding (wpAny_bind (hc (j+1) (argBest bt j) v vb _ _ _ pv pb (wpAny_bind (wpAny_holding (wpAny_truthy_bool (wpAny_bind (wpAny_letGo (wpAny_pure ?_))))))))))
  cases hb:bt (j+1) (argBest bt j) with
  | true=>
   simp only [if_true]
   refine wpAny_bind (wpAny_updateSeq gS' rfl (wpAny_bind (wpAny_letGo ?_)))
   rw [nm]
   refine wpAny_pure ⟨plainId_quiet PySem.F.plain_min_loop _,ih (j+1) _ v _ (by omega) lt (W.frame _ _ _ st' fun b bf o e=>(Heap.get?_update_other _ _ (fun h:S=b=>nS (by rw [h];exact bf))).trans e) (by simp only [argBest,hb,if_true];exact pv) (Heap.get?_update_self _ gS' rfl) fun v2 h2 tk2 pv2 kk2=>?_⟩
   exact hR v2 h2 tk2 pv2 fun b o n1 n2 e=>kk2 b o n1 n2 ((Heap.get?_update_other _ _ (Ne.symm n2)).trans (kk b o n1 e))
  | false=>
   simp only [Bool.false_eq_true,if_false]
   refine wpAny_bind (wpAny_letGo ?_)
   rw [nm]
   exact wpAny_pure ⟨plainId_quiet PySem.F.plain_min_loop _,ih (j+1) _ vb c (by omega) lt st' (by simp only [argBest,hb,Bool.false_eq_true,if_false];exact pb) gS' fun v2 h2 tk2 pv2 kk2=>hR v2 h2 tk2 pv2 fun b o n1 n2 e=>kk2 b o n1 n2 (kk b o n1 e)⟩
theorem first_minN {prog:Program} {w:World} {A:Around} {R:Result→Shared→Prop} {I:Addr} {fp wr:List Addr} {n:Nat} {P:Nat→Value→Prop} {St:Nat→Heap→Prop} (W:Walks prog w A.in1 I fp wr n P St) (bt:Nat→Nat→Bool) (hc:CmpOf prog w A.in1 .Lt P bt) (S:Addr) (nS:S∉fp) {s:Shared} {c:Nat} (st:St 0 s.heap)
  (gS:s.heap.get? S=some ⟨.type "list",none,.seq #[] c,#[]⟩) (hz:0 < n)
  (h1:∀v h' tk,P (argBest bt (n - 1)) v→(∀b o,b∉wr→b≠S→s.heap.get? b=some o→h'.get? b=some o)→R (.ok (.ret v)) {s with heap:=h',toks:=tk}):
  codeAny (model prog w) A (.builtin "min.loop" ⟨[.ref I,.none,.ref S],[]⟩) R s:=by
 have wS:S∉wr:=fun h=>nS (W.sub _ h)
 have nm:(toString "min"++toString ".loop":String)="min.loop":=by decide
 refine codeAny_builtin PySem.F.entry_min_loop ?_
 rw [Around.under_plainId PySem.F.plain_min_loop _]
 refine bnd (seqItems? (.ref S)) (wpAny_seqItems gS rfl ?_)
 refine bnd (tryCatch (pyNext (.ref I)) _) (wpAny_tryCatch (W.item 0 s _ _ hz st fun v h' tk pv st' kk=>?_))
 have gS':=kk S _ wS gS
 refine bnd (updateSeq S (fun _=>#[v,v])) (wpAny_updateSeq gS' rfl ?_)
 rw [nm]
 refine wpAny_pure ⟨plainId_quiet PySem.F.plain_min_loop _,loop_minN W bt hc S nS _ 0 _ v _ rfl hz (W.frame _ _ _ st' fun b bf o e=>(Heap.get?_update_other _ _ (fun h:S=b=>nS (by rw [h];exact bf))).trans e) pv (Heap.get?_update_self _ gS' rfl) fun v2 h2 tk2 pv2 kk2=>?_⟩
 exact h1 v2 h2 tk2 pv2 fun b o n1 n2 e=>kk2 b o n1 n2 ((Heap.get?_update_other _ _ (Ne.symm n2)).trans (kk b o n1 e))
theorem args_minN (a:Value):argsOk "min" ⟨[a],[]⟩:=by unfold argsOk;kernel_rfl
theorem run_minN {prog:Program} {w:World} {A:Around} {E:Value→Shared→Prop} {s:Shared} {l:Addr} {items:Array Value} {val:Nat→Int} {Q:Value→Shared→Prop} (hh:A.in1.handled=none) (hl:s.heap.IsList l items) (hv:∀i v,items[i]?=some v→∃t,v=Value.int (val i) t) (hz:0 < items.size)
  (h1:∀t h' tk,(∀b o,s.heap.get? b=some o→h'.get? b=some o)→Q (Value.int (val (argBest (fun i j=>decide (val i < val j)) (items.size - 1))) t) {s with heap:=h',toks:=tk}):
  wpAny (model prog w) A (call (.builtin "min") [.ref l] []) Q E s:=by
 have nm:(toString "min"++toString ".loop":String)="min.loop":=by decide
 obtain ⟨ol,hol,_⟩:=id hl
 have hne:l≠s.heap.objs.size:=Nat.ne_of_lt (Heap.lt_size hol)
 refine PyProof.Rows.kmk_tree PySem.F.kind_min PySem.F.plain_min PySem.F.entry_min (args_minN _) ?_
 refine bnd (Builtin.Builtins.bindParams "min" ["key","default"] 0 ⟨[],[]⟩) (wpAny_of_eq (show _=pure [none,none] from rfl) ?_)
 refine wpAny_bind (wpAny_pure ?_)
 refine wpAny_bind (wpAny_pyIter_list hl ?_)
 refine wpAny_bind (wpAny_newObj_type ?_)
 rw [nm]
 have W:=Walks.list (prog:=prog) (w:=w) (A:=A.in1) hh s.heap.objs.size l hne items
 have sz:(s.heap.push {cls:=.type "list_iterator",data:=.fields #[.ref l,.int 0 0]}).objs.size=s.heap.objs.size+1:=Heap.size_push ..
 have hlt:=Heap.lt_size hol
 have gI:(s.heap.push {cls:=.type "list_iterator",data:=.fields #[.ref l,.int 0 0]}).get? s.heap.objs.size=some {cls:=.type "list_iterator",data:=.fields #[.ref l,.int 0 0]}:=Heap.get?_push_size _ rfl
 have hl1:=hl.push {cls:=.type "list_iterator",data:=.fields #[.ref l,.int 0 0]}
 have k1:∀b o,s.heap.get? b=some o→(s.heap.push {cls:=.type "list_iterator",data:=.fields #[.ref l,.int 0 0]}).get? b=some o:=fun b o e=>Heap.get?_push_of_some _ e
 dsimp only
 generalize s.heap.push {cls:=.type "list_iterator",data:=.fields #[.ref l,.int 0 0]}=hp1 at sz gI hl1 k1 ⊢
 refine wpAny_pure ⟨plainId_quiet PySem.F.plain_min_loop _,first_minN W _ (CmpOf.ints_lt val hv) hp1.objs.size (by rw [sz];simp only [List.mem_cons,List.not_mem_nil,or_false,not_or];exact ⟨Nat.succ_ne_self _,Ne.symm (ne_sz1 hol)⟩) ⟨⟨_,Heap.get?_push_of_some _ gI,rfl,rfl⟩,hl1.push _⟩ (Heap.get?_push_size _ rfl) hz fun v h' tk pv kk=>?_⟩
 obtain ⟨t2,rfl⟩:=hv _ v pv
 exact h1 t2 h' tk fun b o e=>kk b o (by simp only [List.mem_cons,List.not_mem_nil,or_false];exact ne_sz e) (by rw [sz];exact ne_sz1 e) (Heap.get?_push_of_some _ (k1 b o e))
theorem call_minL {X:Cx} (hc:X.calm=true):CallR X (.builtin "min") (fun xs H Q=>∃a ns,xs=[.ref a]∧SqL X.K H a (ns.map V.int)∧ns≠[]∧Q (.int (L_min ns)) H):=by
 intro pins s σ H xs us Q I r h
 obtain ⟨a,ns,rfl,hq,z',q⟩:=h
 obtain ⟨u,rfl,ru⟩:=vals1 r
 cases ru
 obtain ⟨its,rv,pl,hz⟩:=I.list hq
 have hlen:ns.length=its.length:=by have:=rv.length;rwa [List.length_map] at this
 refine run_minN (val:=fun i=>ns.getD i 0) (items:=its.toArray) (I.ok.hd hc) pl.isList (fun i v ev=>?_) (by rw [List.size_toArray,←hlen];exact List.length_pos_iff.mpr z') fun t h' tk kk=>?_
 ·have ev':its[i]?=some v:=by simpa using ev
  have hi:i < ns.length:=by rw [hlen];exact (List.getElem?_eq_some_iff.mp ev').1
  obtain ⟨u',e',r'⟩:=rv.get (x:=V.int (ns.getD i 0)) (i:=i) (by rw [List.getElem?_map,List.getElem?_eq_getElem hi];simp [List.getD,hi])
  rw [ev'] at e'
  cases e'
  exact r'
 ·refine ⟨.int (L_min ns),H,I.kept kk,⟨t,?_⟩,q⟩
  unfold L_min
  rw [hlen]
  simp
end L3
namespace K1
open PySem L2 L3 M1
noncomputable def TabAt (H:Hp) (p:Addr) (D:Str→Option Int):Prop:=∃kvs,Rd H p (.dK kvs)∧Tab kvs D
theorem TabAt.get {H:Hp} {p:Addr} {D:Str→Option Int} (T:TabAt H p D) (g:Str):DGet H p (.str g) ((D g).map V.int):=by
 obtain ⟨kvs,r,t⟩:=T
 exact .inl ⟨kvs,Sum.inr g,r,rfl,(t.at_ g).symm⟩
noncomputable def begins (Da Db:Str→Option Int) (g:Str) (t:Int):Bool:=match Db g with
 | none=>false
 | some u=>decide (some (t+u)=Da g)
noncomputable def spBeg:Sp:=fun vs H Q _=>∃(r f pa pb:Addr) (hs:List (List Nat)) (d:M1.Rd) (kvs:List (Key × L2.V)) (g:Str) (Da Db:Str→Option Int),vs=[.ref r,.ref f,.str g]∧H r=some (.tup (rdV hs d))∧H f=some (.dK kvs)∧
 valV kvs (Sum.inr (S (hs.getD d.a [])):Key)=some (.ref pa)∧valV kvs (Sum.inr (S (hs.getD d.b [])):Key)=some (.ref pb)∧TabAt H pa Da∧TabAt H pb Db∧(∀u,Db g=some u→∃v,Da g=some v)∧Q (.bl (begins Da Db g d.t)) H
noncomputable abbrev farD (hs:List (List Nat)) (ds:List M1.Rd) (h:Str):Str→Option Int:=fun g=>M4.dist (eds hs ds) h g
noncomputable def toI (hs:List (List Nat)) (ds:List M1.Rd) (i:Int):Str:=S (hs.getD (ds.getD i.toNat d0).b [])
noncomputable def fitB (hs:List (List Nat)) (ds:List M1.Rd) (h g:Str) (i:Int):Bool:=begins (farD hs ds h) (farD hs ds (toI hs ds i)) g (ds.getD i.toNat d0).t
noncomputable def fit (hs:List (List Nat)) (ds:List M1.Rd) (h g:Str):List Int:=(touch hs ds (·.a) h).filter (fitB hs ds h g)
noncomputable def best (hs:List (List Nat)) (ds:List M1.Rd) (h g:Str):Int:=L_min (fit hs ds h g)
theorem fit_ne {hs:List (List Nat)} {ds:List M1.Rd} (h9:∀e∈eds hs ds,1≤e.t) {h g:Str} {v:Int} (hv:farD hs ds h g=some v) (hn:h≠g):fit hs ds h g≠[]:=by
 obtain ⟨_,e,he,u,ea,eu,ev⟩:=(M4.fars h9 g).other h9 hn hv
 obtain ⟨d,hd,rfl⟩:=List.mem_map.mp he
 obtain ⟨i,hi⟩:=List.getElem?_of_mem hd
 have hl:=(List.getElem?_eq_some_iff.mp hi).1
 have e0:ds.getD i d0=d:=getD_of hi
 refine List.ne_nil_of_mem (a:=(i:Int)) (List.mem_filter.mpr ⟨?_,?_⟩)
 ·unfold touch touchN
  refine List.mem_map.mpr ⟨i,List.mem_filter.mpr ⟨List.mem_range.mpr hl,?_⟩,rfl⟩
  have ea':S (hs.getD d.a [])=h:=ea
  rw [e0,ea']
  exact decide_eq_true rfl
 ·unfold fitB begins toI
  rw [Int.toNat_natCast,e0]
  have eu':farD hs ds (S (hs.getD d.b [])) g=some u:=eu
  have ev':v=u+d.t:=ev
  rw [eu',hv]
  refine decide_eq_true ?_
  congr 1
  omega
theorem best_mem {hs:List (List Nat)} {ds:List M1.Rd} (h9:∀e∈eds hs ds,1≤e.t) {h g:Str} {v:Int} (hv:farD hs ds h g=some v) (hn:h≠g):best hs ds h g∈touch hs ds (·.a) h∧fitB hs ds h g (best hs ds h g)=true:=
 List.mem_filter.mp (min_is (fit_ne h9 hv hn)).1
structure Bst (bst:Str→Str→Int) (L:List Str) (kvs:DTs) (M:Str→Str→Prop):Prop where
 yes:∀h g,M h g→valV kvs (pk h g)=some (.int (bst h g))
 no:∀h g,¬M h g→valV kvs (pk h g)=none
 key:∀k∈kvs.map (·.1),∃h g,k=pk h g∧h∈L∧g∈L
 nd:(kvs.map (·.1)).Nodup
theorem pk_inj {h g h' g':Str} (e:pk h g=pk h' g'):h=h'∧g=g':=by
 unfold pk at e
 simp only [List.cons.injEq,Sum.inr.injEq,and_true] at e
 exact e
theorem keys_old {κ:Type} [DecidableEq κ] {kvs:List (κ × L2.V)} {k:κ} {u:L2.V} (v:L2.V) (h:valV kvs k=some u):(putK kvs k v).map (·.1)=kvs.map (·.1):=by
 unfold putK
 rw [if_pos (by rw [valV_any,h];rfl),List.map_map]
 refine List.map_congr_left fun q _=>?_
 show (if q.1=k then (q.1,v) else q).1=q.1
 split <;> rfl
theorem Bst.put {bst:Str→Str→Int} {L:List Str} {kvs:DTs} {M:Str→Str→Prop} (B:Bst bst L kvs M) {h g:Str} (hh:h∈L) (hg:g∈L):Bst bst L (putK kvs (pk h g) (.int (bst h g))) (fun h' g'=>M h' g'∨(h'=h∧g'=g)):=by
 refine ⟨fun h' g' m=>?_,fun h' g' m=>?_,?_,?_⟩
 ·rw [valV_put]
  by_cases e:pk h' g'=pk h g
  ·obtain ⟨rfl,rfl⟩:=pk_inj e
   rw [if_pos rfl]
  ·rw [if_neg e]
   refine B.yes h' g' (m.resolve_right fun z=>e ?_)
   rw [z.1,z.2]
 ·rw [valV_put,if_neg fun e=>m (.inr (pk_inj e))]
  exact B.no h' g' fun z=>m (.inl z)
 ·intro k hk
  cases hv:valV kvs (pk h g) with
  | none=>
   rw [putK_new _ hv,List.map_append] at hk
   rcases List.mem_append.mp hk with z | z
   ·exact B.key k z
   ·exact ⟨h,g,List.mem_singleton.mp z,hh,hg⟩
  | some u=>
   rw [keys_old _ hv] at hk
   exact B.key k hk
 ·cases hv:valV kvs (pk h g) with
  | none=>exact nd_putK _ B.nd hv
  | some u=>rw [keys_old _ hv];exact B.nd
theorem Bst.iff {bst:Str→Str→Int} {L:List Str} {kvs:DTs} {M M':Str→Str→Prop} (B:Bst bst L kvs M) (e:∀h g,M h g↔M' h g):Bst bst L kvs M':=
 ⟨fun h g m=>B.yes h g ((e h g).mpr m),fun h g m=>B.no h g fun z=>m ((e h g).mp z),B.key,B.nd⟩
theorem Bst.few {bst:Str→Str→Int} {L:List Str} {kvs:DTs} {M:Str→Str→Prop} (B:Bst bst L kvs M) (hl:L.length≤12):kvs.length≤144:=by
 have h1:=nodup_len (L:=L.flatMap fun h=>L.map (pk h)) B.nd fun k hk=>by
  obtain ⟨h,g,rfl,hh,hg⟩:=B.key k hk
  exact List.mem_flatMap.mpr ⟨h,hh,List.mem_map.mpr ⟨g,hg,rfl⟩⟩
 have h2:(L.flatMap fun h=>L.map (pk h)).length=L.length * L.length:=by simp [List.length_flatMap,List.map_const']
 rw [h2,List.length_map] at h1
 exact Nat.le_trans h1 (Nat.mul_le_mul hl hl)
theorem same_in {H H':Hp} {a:Addr} (sm:Same H H') (z:HO):Same (upd H a z) (upd H' a z):=fun b o e=>by
 by_cases hb:b=a
 ·rw [hb,upd_same] at e ⊢
  exact e
 ·rw [upd_ne hb] at e ⊢
  exact sm b o e
theorem same_out {H H':Hp} {a:Addr} {u z:HO} (ha:H a=some u) (sm:Same (upd H a z) H'):Same H (upd H' a u):=fun b o e=>by
 by_cases hb:b=a
 ·rw [hb,upd_same]
  rw [hb,ha] at e
  exact e
 ·rw [upd_ne hb]
  exact sm b o (by rw [upd_ne hb];exact e)
section
variable {P:Program} {w:World} {K:PySem.W.Frag} {mg:Str→Option Value} {base:Heap}
noncomputable abbrev sBeg:Stmt:=top 39
theorem scBeg:FnScope ["road","far_from","goal","behind"] ["road","far_from","goal"] (defScope sBeg):=⟨rfl,rfl,rfl,by decide+kernel,rfl,by decide+kernel,by decide+kernel⟩
theorem ok_beg {f:Addr} {fd:FuncData} (F:Fun K "begins_shortest" "begins_shortest" sBeg f fd):FnOk P w K mg base CX0 1 f fd ["road","far_from","goal"] spBeg:=by
 refine F.ok scBeg (fun vs H Q E h=>?_) (fun cdv A outer s H vs Q E hr h=>?_)
 ·obtain ⟨r,f',pa,pb,hs,d,kvs,g,Da,Db,rfl,_⟩:=h
  rfl
 ·obtain ⟨r,f',pa,pb,hs,d,kvs,g,Da,Db,rfl,hR,hf,va,vb,Ta,Tb,hv,q⟩:=h
  refine ⟨_,(pss_cons (ps_set (i:=3) scBeg.nd rfl (Or.inl rfl) (pe_dget1 (hu_of hr) (pe_dget (hu_of hr) (pv 1) (pe_ix ix_tup (pv 0) pe_int (fun _ _=>rfl)) (fun _ _=>rfl)) (pv 2) ⟨rfl,rfl,rfl,rfl⟩))
   (pss_one (ps_ret (pe_and (pe_cmpR op_notN (pv 3) pe_non (nomark _)) (pe_one (pe_cmpR op_eq (pe_op op_add (pe_ix ix_tup (pv 0) pe_int (fun _ _=>rfl)) (pv 3)) (pe_dget (hu_of hr) (pe_dget (hu_of hr) (pv 1) (pe_ix ix_tup (pv 0) pe_int (fun _ _=>rfl)) (fun _ _=>rfl)) (pv 2) (fun _ _=>rfl)) (nomark _))))))),?_⟩
  have ga:=DGet.k (k:=Sum.inr (S (hs.getD d.a []))) hf
  have gb:=DGet.k (k:=Sum.inr (S (hs.getD d.b []))) hf
  rw [va] at ga
  rw [vb] at gb
  have ta:=Ta.get g
  have tb:=Tb.get g
  unfold begins at q
  have ib:IsD H pb:=by
   obtain ⟨kb,r0,_⟩:=Tb
   exact .inl ⟨kb,r0⟩
  refine ⟨_,rfl,_,rfl,r,_,_,_,rfl,rfl,SqT.of hR,rfl,f',_,rfl,gb,pb,rfl,ib,_,rfl,_,tb,_,rfl,?_⟩
  cases hb:Db g with
  | none=>
   rw [hb] at q
   exact ⟨rfl,_,rfl,iteN (by decide) q⟩
  | some u=>
   rw [hb] at q
   obtain ⟨v,hv⟩:=hv u hb
   have gv:=ta
   rw [hv] at gv q
   refine ⟨rfl,_,rfl,iteB (by simp) ⟨_,rfl,r,_,_,_,rfl,rfl,SqT.of hR,rfl,_,rfl,_,_,rfl,rfl,_,rfl,_,rfl,r,_,_,_,rfl,rfl,SqT.of hR,rfl,f',_,rfl,ga,_,rfl,pa,_,rfl,gv,rfl,?_⟩⟩
   have ee:decide (V.int (d.t+u)=V.int v)=decide (some ((d.t:Int)+u)=some v):=by simp
   rw [ee]
   exact q
end
open PySem L2 L3 M1
theorem inD_memS {hs:List (List Nat)} {y:Str} (h:y∈hs.map S):inD (.str y) (hD hs)=true:=by
 obtain ⟨x,hx,rfl⟩:=List.mem_map.mp h
 obtain ⟨k,hk,ek⟩:=List.getElem_of_mem hx
 have e:hs.getD k []=x:=by rw [List.getD,List.getElem?_eq_getElem hk,ek];rfl
 have:=inD_yes hk
 rwa [e] at this
theorem unlikeS {hs:List (List Nat)} {h g:Str} (a:h∈hs.map S) (b:g∈hs.map S) (n:h≠g):unlikeD (hD hs) (.str h) (.str g)=true:=by
 unfold unlikeD
 rw [inD_memS a,inD_memS b,eqv_str',decide_eq_false n]
 rfl
theorem th_nmS {H:Hp} {hs:List (List Nat)} (G:Good hs) {c:Str} (h:c∈hs.map S):Th H (.str c) (.str c):=by
 obtain ⟨x,hx,rfl⟩:=List.mem_map.mp h
 have n:=G.nm x hx
 exact .str _ (by rw [S_len];have:=n.2.1;omega) (strOk_nm n)
noncomputable def FarAt (H1 H:Hp) (q:Addr) (fk:List (Key × L2.V)) (hs:List (List Nat)) (ds:List M1.Rd) (h:Str):Prop:=∃(p:Addr) (kv:List (Key × L2.V)),valV fk (Sum.inr h:Key)=some (.ref p)∧p≠q∧H1 p=none∧H p=some (.dK kv)∧Tab kv (farD hs ds h)
theorem noneS {H H':Hp} {p:Addr} (sm:Same H H') (hp:H' p=none):H p=none:=by
 cases e:H p with
 | none=>rfl
 | some o=>rw [sm _ _ e] at hp;cases hp
theorem ne_of {H:Hp} {a b:Addr} {o:HO} (ha:H a=some o) (hb:H b=none):a≠b:=fun e=>by rw [e,hb] at ha;cases ha
theorem txsS {hs:List (List Nat)} {i:Nat} {v:L2.V} (e:(txs hs)[i]?=some v):∃h,v=.str h∧(hs.map S)[i]?=some h:=by
 unfold txs at e
 rw [List.getElem?_map] at e
 obtain ⟨x,hx,rfl⟩:=Option.map_eq_some_iff.mp e
 exact ⟨S x,rfl,by rw [List.getElem?_map,hx];rfl⟩
theorem valV_memI {κ:Type} [DecidableEq κ] {k:κ} {x:L2.V}:∀{kvs:List (κ × L2.V)},(k,x)∈kvs→(valV kvs k).isSome=true:=fun {kvs} h=>by
 rw [←valV_any]
 exact List.any_eq_true.mpr ⟨_,h,decide_eq_true rfl⟩
theorem valV_memE {κ:Type} [DecidableEq κ] {k:κ} {kvs:List (κ × L2.V)} (h:(valV kvs k).isSome=true):∃(j:Nat) (x:L2.V),kvs[j]?=some (k,x):=by
 rw [←valV_any] at h
 obtain ⟨⟨k',x⟩,hm,e⟩:=List.any_eq_true.mp h
 obtain ⟨j,hj⟩:=List.getElem?_of_mem hm
 exact ⟨j,x,by rw [hj,show k'=k from of_decide_eq_true e]⟩
theorem path_in {hs:List (List Nat)} {ds:List M1.Rd} (R:∀d∈ds,d.Ok hs.length) {h g:Str} {u:Int} (p:M4.Path (eds hs ds) h g u) (hm:h∈hs.map S):g∈hs.map S:=by
 cases p with
 | nil=>exact hm
 | snoc e _ he=>
  obtain ⟨d,hd,rfl⟩:=List.mem_map.mp he
  exact mem_at (R d hd).b
theorem touch_at {hs:List (List Nat)} {ds:List M1.Rd} {h:Str} {i:Nat} {v:L2.V} (e:((touch hs ds (·.a) h).map V.int)[i]?=some v):∃(k:Nat) (d:M1.Rd),v=.int (k:Int)∧ds[k]?=some d∧S (hs.getD d.a [])=h:=by
 obtain ⟨z,hz,rfl⟩:=List.mem_map.mp (List.mem_of_getElem? e)
 unfold touch touchN at hz
 obtain ⟨k,hk,rfl⟩:=List.mem_map.mp hz
 obtain ⟨h1,h2⟩:=List.mem_filter.mp hk
 have hl:=List.mem_range.mp h1
 have e1:ds[k]?=some ds[k]:=List.getElem?_eq_getElem hl
 refine ⟨k,ds[k],rfl,e1,?_⟩
 rw [getD_of e1] at h2
 have:=of_decide_eq_true h2
 cases this
 rfl
theorem seq_asg {te:TE} {g:TG} {u:TS} {D:Ends} {σ:L2.St} {H:Hp} (h:te σ H fun v H1=>g v σ H1 (u D)):tSeq (tAsg te g) u D σ H:=h
theorem tlc_new {K:PySem.W.Frag} {wi:TI} {cs:List (Option Nat)} {tt:TT} {te:TE} {σ rest:L2.St} {H:Hp} {Q:VK} {xs:List L2.V} (hw:∀R:It→Hp→Prop,(∀p H1,H p=none→Same H H1→H1 p=some (.lst xs)→R (Itl K p) H1)→wi σ H R) (hcs:caps cs σ=none::rest) (hl:xs.length < sizeLine) (p:L2.V→Bool) (f:L2.V→L2.V)
  (test:∀(i:Nat) (x:L2.V) (H2:Hp) (R:Bool→Hp→Prop),xs[i]?=some x→Same H H2→(∀H5,Same H2 H5→R (p x) H5)→tt (some x::rest) H2 R)
  (elt:∀(i:Nat) (x:L2.V) (H2:Hp) (R:VK),xs[i]?=some x→p x=true→Same H H2→(∀H5,Same H2 H5→R (f x) H5)→te (some x::rest) H2 R)
  (fin:∀(D:Addr) (H':Hp),H D=none→H' D=some (.lst ((xs.filter p).map f))→Same H H'→Q (.ref D) H'):tLC wi cs (gName 0) tt te σ H Q:=
 hw _ fun q H1 nq s1 hq=>lc_wk hcs (wk_list (SqL.of hq)) hl p f (fun i x H2 R ex sm h=>test i x H2 R ex (s1.trans sm) h) (fun i x H2 R ex px sm h=>elt i x H2 R ex px (s1.trans sm) h) fun D H' nD hD sm=>fin D H' (noneS s1 nD) hD (s1.trans sm)
noncomputable def Told (hs:List (List Nat)) (ds:List M1.Rd) (i:Nat) (h g:Str):Prop:=(∃j,j < i∧(hs.map S)[j]?=some h)∧h≠g∧(farD hs ds h g).isSome=true
structure ShortTab (hs:List (List Nat)) (ds:List M1.Rd) (kvs:DTs):Prop where
 bst:Bst (best hs ds) (hs.map S) kvs (fun h g=>h∈hs.map S∧h≠g∧(farD hs ds h g).isSome=true)
section
variable {P:Program} {w:World} {K:PySem.W.Frag} {mg:Str→Option Value} {base:Heap}
noncomputable abbrev sSh:Stmt:=top 40
theorem scSh:FnScope ["net","roads","far_from","house","ways","goal","fitting"] ["net"] (defScope sSh):=⟨rfl,rfl,rfl,by decide+kernel,rfl,by decide+kernel,by decide+kernel⟩
noncomputable def spSh (C CN:Addr):Sp:=fun vs H Q _=>∃(n a' b':Addr) (hs:List (List Nat)) (rs:List Addr) (ds:List M1.Rd),vs=[.ref n]∧NetAt CN H n a' b' (txs hs) (refs rs)∧Good hs∧RoadsAt H hs rs ds∧rs.length≤40∧∀(x t:Addr) (H':Hp) (kvs:DTs),H x=none→H t=none→Same H H'→WaysAt C CN H' x n t a' b' (txs hs) (refs rs) kvs→ShortTab hs ds kvs→Q (.ref x) H'
theorem ok_sh {C CN NH NR f f1 f2 f3 f4 f5 f6 fj:Addr} {fd fd1 fd2 fd3 fd4 fd5 fd6 fdj:FuncData} (F:Fun K "shortest" "shortest" sSh f fd) (B:Blt mg) (WC:WaysC K C) (Cl_Net:Cls K CN) (at_Ways:mg "Ways"=some (.ref C))
  (M_Net_houses:Mn K CN "houses" "Net.houses" sHousesM ["self"] f1 fd1) (G_Net_houses:FnOk P w K mg base CX0 1 f1 fd1 ["self"] (spHousesM CN))
  (M_Net_roads:Mn K CN "roads" "Net.roads" sRoadsM ["self"] f2 fd2) (G_Net_roads:FnOk P w K mg base CX0 1 f2 fd2 ["self"] (spRoadsM CN))
  (M_Net_out_of:Mn K CN "out_of" "Net.out_of" sOut ["self","house"] f3 fd3) (G_Net_out_of:FnOk P w K mg base (CXe P w) 2 f3 fd3 ["self","house"] (spOut CN NH (·.a)))
  (D_least_turns_from:Dn K mg "least_turns_from" sLeast ["roads","house"] f4 fd4) (G_least_turns_from:FnOk P w K mg base CX0 2 f4 fd4 ["roads","house"] (spLeast K))
  (D_begins_shortest:Dn K mg "begins_shortest" sBeg ["road","far_from","goal"] f5 fd5) (G_begins_shortest:FnOk P w K mg base CX0 1 f5 fd5 ["road","far_from","goal"] spBeg)
  (Mk_Ways:Mk K C fj) (D_Ways_init:Inn K C "Ways.__init__" sWI ["self","net"] fj fdj) (G_Ways_init:FnOk P w K mg base CX0 1 fj fdj ["self","net"] (spWI C))
  (M_Ways_set_way:Mn K C "set_way" "Ways.set_way" sSW ["self","house","goal","road"] f6 fd6) (G_Ways_set_way:FnOk P w K mg base (CXe P w) 3 f6 fd6 ["self","house","goal","road"] (spSW C CN NH NR)):
  FnOk P w K mg base CX0 4 f fd ["net"] (spSh C CN):=by
 have Cl_Ways:=WC.cl
 refine F.ok scSh (fun vs H Q E h=>?_) (fun cdv A outer s H vs Q E hr h=>?_)
 ·obtain ⟨n,a',b',hs,rs,ds,rfl,_⟩:=h
  rfl
 ·obtain ⟨n,a',b',hs,rs,ds,rfl,N,G,hR,few,q⟩:=h
  refine ⟨_,(pss_cons (ps_set (i:=1) scSh.nd rfl (Or.inr rfl) (pe_meth0 (pv 0) Cl_Net M_Net_roads.me G_Net_roads (hr.mono (by decide)) M_Net_roads.bd .nil pass0))
   (pss_cons (ps_set (i:=2) scSh.nd rfl (Or.inr rfl) pe_dnewK)
   (pss_cons (ps_for PassesOwn.never rfl (pi_list (pe_meth0 (pv 0) Cl_Net M_Net_houses.me G_Net_houses (hr.mono (by decide)) M_Net_houses.bd .nil pass0)) (pg_name (i:=3) scSh.nd rfl (Or.inl rfl))
    (pss_one (ps_dput (hu_of hr) (pv 2) (pv 3) (pe_call G_least_turns_from (hr.mono (by decide)) (by rfl) D_least_turns_from.at_ D_least_turns_from.fn.kp D_least_turns_from.bd .nil pass0 (pa_cons (pv 1) (pa_cons (pv 3) pa_nil))) rfl)))
   (pss_cons (ps_set (i:=4) scSh.nd rfl (Or.inl rfl) (pe_make Mk_Ways G_Ways_init (hr.mono (by decide)) (by rfl) at_Ways D_Ways_init.bd .nil pass0 (pa_cons (pv 0) pa_nil)))
   (pss_cons (ps_for PassesOwn.never rfl (pi_list (pe_meth0 (pv 0) Cl_Net M_Net_houses.me G_Net_houses (hr.mono (by decide)) M_Net_houses.bd .nil pass0)) (pg_name (i:=3) scSh.nd rfl (Or.inl rfl))
    (pss_one (ps_fzK (ps_for PassesOwn.never rfl (pi_keysK (pe_dget (hu_of hr) (pv 2) (pv 3) (fun _ _=>rfl))) (pg_name (i:=5) scSh.nd rfl (Or.inr rfl))
    (pss_one (ps_if (pt_cmpR op_ne (pv 5) (pv 3) (nomark _)) (pss_cons (ps_setLC (i:=6) scSh.nd rfl rfl rfl (N':=["number","far_from","goal","roads"]) (cs:=[none,some 2,some 5,some 1]) rfl (pi_list (pe_meth (pv 0) Cl_Net M_Net_out_of.me G_Net_out_of (hr.mono (by decide)) M_Net_out_of.bd .nil passE (pa_cons (pv 3) pa_nil))) rfl (by decide+kernel) rfl (by decide+kernel) (sub_of (List.forall_mem_cons.mpr ⟨rfl,(List.forall_mem_cons.mpr ⟨rfl,(List.forall_mem_cons.mpr ⟨rfl,(fun p hp=>absurd hp (List.not_mem_nil))⟩)⟩)⟩)) rfl
    (.own (.cap rfl (.inl rfl) (.inl rfl) rfl (.cap rfl (.inl rfl) (.inl rfl) rfl (.cap rfl (.inl rfl) (.inl rfl) rfl .nil))))
    (fun C s3 H3 fp pn=>⟨(pg_name (i:=0) (by show (["number","far_from","goal","roads"]:List Str).Nodup;decide+kernel) rfl (.inl rfl)),(pif_one (pt_val (pe_call G_begins_shortest (hr.mono (by decide)) (by rfl) D_begins_shortest.at_ D_begins_shortest.fn.kp D_begins_shortest.bd .nil pass0 (pa_cons (pe_ix (ix_listK (K:=K) rfl) (pv 3) (pv 0) (fun _ _=>rfl)) (pa_cons (pv 1) (pa_cons (pv 2) pa_nil)))))),(pv 0)⟩))
   (pss_one (ps_expr (pe_meth (pv 4) Cl_Ways M_Ways_set_way.me G_Ways_set_way (hr.mono (by decide)) M_Ways_set_way.bd .nil passE (pa_cons (pv 3) (pa_cons (pv 5) (pa_cons (pe_callB (call_minL rfl) (by rfl) B.min bt_mn (pa_cons (pv 6) pa_nil)) pa_nil))))))) pss_nil))))))
   (pss_one (ps_ret (pv 4)))))))),?_⟩
  obtain ⟨dn,hn⟩:=N.ins
  have hlen:=hR.len
  have few12:=G.few
  refine ⟨_,rfl,n,dn,_,rfl,hn,rfl,n,a',b',_,_,rfl,N,fun p1 np1=>?_⟩
  have s1:Same H (upd H p1 (.lst (refs rs))):=upd_free np1
  have h1:upd H p1 (.lst (refs rs)) p1=some (.lst (refs rs)):=upd_same
  generalize upd H p1 (.lst (refs rs))=H1 at s1 h1 ⊢
  refine fun p2 np2=>?_
  have s2:Same H1 (upd H1 p2 (.dK [])):=upd_free np2
  have h2:upd H1 p2 (.dK []) p2=some (.dK []):=upd_same
  generalize upd H1 p2 (.dK [])=H2 at s2 h2 ⊢
  refine ⟨_,rfl,n,dn,_,rfl,s2 _ _ (s1 _ _ hn),rfl,n,a',b',_,_,rfl,(N.same s1).same s2,fun p3 np3=>⟨p3,rfl,⟨_,SqL.of upd_same⟩,?_⟩⟩
  have n32:p2≠p3:=ne_of h2 np3
  refine for_list (xs:=txs hs) (fun i σ Hc=>∃(fk:List (Key × L2.V)) (vh:Option L2.V),σ=[some (.ref n),some (.ref p1),some (.ref p2),vh,none,none,none]∧Same H1 Hc∧Hc p3=some (.lst (txs hs))∧Hc p2=some (.dK fk)∧fk.length≤i∧∀j h,j < i→(hs.map S)[j]?=some h→FarAt H1 Hc p2 fk hs ds h)
   ⟨[],none,rfl,s2.trans (upd_free np3),upd_same,by rw [upd_ne n32];exact h2,Nat.le_refl _,fun j h hj _=>absurd hj (Nat.not_lt_zero _)⟩ ?_ ?_ ?_
  ·rintro i σ Hc hi ⟨fk,vh,rfl,sm,h3,_⟩
   exact SqL.of h3
  ·rintro i v σ Hc ev ⟨fk,vh,rfl,sm,h3,hf,hfl,hF⟩
   obtain ⟨h,rfl,eh⟩:=txsS ev
   have il:i < hs.length:=by have:=(List.getElem?_eq_some_iff.mp eh).1;rwa [List.length_map] at this
   refine ⟨_,rfl,_,rfl,p1,hs,rs,ds,h,rfl,SqL.of (sm _ _ h1),(hR.same s1).same sm,few12,List.mem_of_getElem? eh,fun p H' kv D np sm2 hk T L=>?_⟩
   refine ⟨_,rfl,_,rfl,p2,_,rfl,DPut.k (k:=Sum.inr h) (sm2 _ _ hf) (small1000 (by omega)),?_⟩
   have np1':H1 p=none:=noneS sm np
   have ne2:p≠p2:=Ne.symm (ne_of hf np)
   have eD:D=farD hs ds h:=funext fun g=>M4.dist_of L g
   subst eD
   refine ⟨_,_,rfl,upd_other np2 (sm.trans sm2),by rw [upd_ne (Ne.symm n32)];exact sm2 _ _ h3,upd_same,?_,fun j h' hj eh'=>?_⟩
   ·cases hv:valV fk (Sum.inr h:Key) with
    | none=>rw [putK_new _ hv,List.length_append];simp only [List.length_cons,List.length_nil];omega
    | some u=>rw [putK_old _ hv];omega
   ·by_cases e:h'=h
    ·subst e
     exact ⟨p,kv,by rw [valV_put,if_pos rfl],ne2,np1',by rw [upd_ne ne2];exact hk,T⟩
    ·have hji:j < i:=by
      rcases Nat.lt_or_ge j i with z | z
      ·exact z
      ·have:j=i:=by omega
       subst this
       rw [eh] at eh'
       cases eh'
       exact absurd rfl e
     obtain ⟨p',kv',v',ne',nn',hk',T'⟩:=hF j h' hji eh'
     exact ⟨p',kv',by rw [valV_put,if_neg fun z=>e (Sum.inr.inj z)];exact v',ne',nn',by rw [upd_ne ne'];exact sm2 _ _ hk',T'⟩
  ·rintro σ Hc ⟨fk,vh,rfl,sm,h3,hf,hfl,hF⟩
   have hFm:∀h∈hs.map S,FarAt H1 Hc p2 fk hs ds h:=fun h hm=>by
    obtain ⟨j,hj⟩:=List.getElem?_of_mem hm
    exact hF j h (by have:=(List.getElem?_eq_some_iff.mp hj).1;rw [List.length_map] at this;unfold txs;rw [List.length_map];exact this) hj
   refine ⟨_,rfl,fun x dx nx ndx nxd=>⟨x,dx,_,rfl,upd_same,fun t nt=>⟨rfl,?_⟩⟩⟩
   have nt0:Hc t=none:=by
    refine noneS (upd_other (o:=.ins C dx []) nx (upd_free (o:=.own x) ndx)) nt
   have tx:x≠t:=ne_of (H:=upd (upd Hc dx (.own x)) x (.ins C dx [])) upd_same nt
   have sM:Same Hc (upd (upd (upd (upd Hc dx (.own x)) x (.ins C dx [])) t (.dT [])) x (.ins C dx (waysF n t))):=upd_other nx (upd_other nt0 (upd_other nx (upd_free ndx)))
   have hxM:upd (upd (upd (upd Hc dx (.own x)) x (.ins C dx [])) t (.dT [])) x (.ins C dx (waysF n t)) x=some (.ins C dx (waysF n t)):=upd_same
   have htM:upd (upd (upd (upd Hc dx (.own x)) x (.ins C dx [])) t (.dT [])) x (.ins C dx (waysF n t)) t=some (.dT []):=by rw [upd_ne (Ne.symm tx),upd_same]
   show tSeq _ _ _ _ (upd (upd (upd (upd Hc dx (.own x)) x (.ins C dx [])) t (.dT [])) x (.ins C dx (waysF n t)))
   generalize upd (upd (upd (upd Hc dx (.own x)) x (.ins C dx [])) t (.dT [])) x (.ins C dx (waysF n t))=Hm at sM hxM htM ⊢
   have Nc:NetAt CN Hc n a' b' (txs hs) (refs rs):=(N.same s1).same sm
   refine ⟨_,rfl,n,dn,_,rfl,sM _ _ (sm _ _ (s1 _ _ hn)),rfl,n,a',b',_,_,rfl,Nc.same sM,fun p4 np4=>⟨p4,rfl,⟨_,SqL.of upd_same⟩,?_⟩⟩
   have np4c:Hc p4=none:=noneS sM np4
   have n4x:x≠p4:=ne_of hxM np4
   have n4t:t≠p4:=ne_of htM np4
   refine for_list (xs:=txs hs) (fun i σ Hd=>∃(kvs:DTs) (vh vg vf:Option L2.V),σ=[some (.ref n),some (.ref p1),some (.ref p2),vh,some (.ref x),vg,vf]∧Same Hc Hd∧Hd p4=some (.lst (txs hs))∧Hd x=some (.ins C dx (waysF n t))∧Hd t=some (.dT kvs)∧Bst (best hs ds) (hs.map S) kvs (Told hs ds i))
    ⟨[],vh,none,none,rfl,sM.trans (upd_free np4),upd_same,by rw [upd_ne n4x];exact hxM,by rw [upd_ne n4t];exact htM,⟨fun h g m=>?_,fun h g _=>rfl,fun k hk=>(nomatch hk),List.nodup_nil⟩⟩ ?_ ?_ ?_
   ·obtain ⟨⟨j,hj,_⟩,_⟩:=m
    exact absurd hj (Nat.not_lt_zero _)
   ·rintro i σ Hd hi ⟨kvs,vh',vg,vf,rfl,sd,h4,_⟩
    exact SqL.of h4
   ·rintro i v σ Hd ev ⟨kvs,vh',vg,vf,rfl,sd,h4,hx,ht,BT⟩
    obtain ⟨h,rfl,eh⟩:=txsS ev
    have hm:h∈hs.map S:=List.mem_of_getElem? eh
    obtain ⟨pa,kv,va,na2,na1,hka,Ta⟩:=hFm h hm
    have nxa:x≠pa:=Ne.symm (ne_of hka nx)
    have nta:t≠pa:=Ne.symm (ne_of hka nt0)
    have n4a:p4≠pa:=Ne.symm (ne_of hka np4c)
    refine ⟨pa,kv,sd _ _ hka,fun o=>?_⟩
    have gp2:=DGet.k (k:=Sum.inr h) (show upd Hd pa (.frz o (.dK kv)) p2=some (.dK fk) by rw [upd_ne (Ne.symm na2)];exact sd _ _ hf)
    rw [va] at gp2
    refine ⟨_,rfl,_,rfl,p2,_,rfl,gp2,pa,o,kv,rfl,upd_same,?_⟩
    refine for_keysK (fun j σ He=>∃(kvs:DTs) (vg vf:Option L2.V),σ=[some (.ref n),some (.ref p1),some (.ref p2),some (.str h),some (.ref x),vg,vf]∧Same (upd Hc pa (.frz o (.dK kv))) He∧He p4=some (.lst (txs hs))∧He x=some (.ins C dx (waysF n t))∧He t=some (.dT kvs)∧
      Bst (best hs ds) (hs.map S) kvs (fun h' g=>Told hs ds i h' g∨(h'=h∧h≠g∧∃j' z,j' < j∧kv[j']?=some (Sum.inr g,z))))
     ⟨kvs,vg,vf,rfl,same_in sd _,by rw [upd_ne n4a];exact h4,by rw [upd_ne nxa];exact hx,by rw [upd_ne nta];exact ht,BT.iff fun h' g=>⟨.inl,fun z=>z.resolve_right fun ⟨_,_,j',_,y,_⟩=>absurd y (Nat.not_lt_zero _)⟩⟩ ?_ ?_ ?_
    ·rintro j σ He ⟨kvs,vg,vf,rfl,se,_⟩
     exact se _ _ upd_same
    ·rintro j k z σ He ek ⟨kvs,vg,vf,rfl,se,h4e,hxe,hte,Be⟩
     obtain ⟨g,eg⟩:=Ta.ks _ (List.mem_of_getElem? ek)
     have eg':k=Sum.inr g:=eg
     subst eg'
     have h9:∀e∈eds hs ds,1≤e.t:=fun e he=>by
      obtain ⟨d,hd,rfl⟩:=List.mem_map.mp he
      exact (hR.ok d hd).t.1
     have hv0:(farD hs ds h g).isSome=true:=by
      have:=valV_memI (List.mem_of_getElem? ek)
      rw [Ta.at_] at this
      simpa using this
     obtain ⟨v,hv⟩:=Option.isSome_iff_exists.mp hv0
     have hg:g∈hs.map S:=path_in hR.ok ((M4.fars h9 g).path h v hv) hm
     refine ⟨_,rfl,_,rfl,rfl,_,rfl,?_⟩
     by_cases e:g=h
     ·subst e
      refine iteN (show (!decide (V.str g=V.str g))=false by simp) ⟨kvs,_,vf,rfl,se,h4e,hxe,hte,Be.iff fun h' g'=>?_⟩
      constructor
      ·rintro (y | ⟨a,b,j',z',hj,ez⟩)
       ·exact .inl y
       ·exact .inr ⟨a,b,j',z',by omega,ez⟩
      ·rintro (y | ⟨a,b,j',z',hj,ez⟩)
       ·exact .inl y
       ·refine .inr ⟨a,b,j',z',?_,ez⟩
        rcases Nat.lt_or_ge j' j with y | y
        ·exact y
        ·have:j'=j:=by omega
         subst this
         rw [ek] at ez
         cases ez
         exact absurd rfl b
     ·refine iteB (show (!decide (V.str g=V.str h))=true by simp [e]) ?_
      have hne:h≠g:=Ne.symm e
      have sHe:Same H (upd Hc pa (.frz o (.dK kv))):=s1.trans (upd_other na1 sm)
      have Nee:=N.same (sHe.trans se)
      have hRe:=hR.same (sHe.trans se)
      have hp1e:=se _ _ ((upd_other (o:=.frz o (.dK kv)) na1 sm) _ _ h1)
      have hp2e:=se _ _ (show upd Hc pa (.frz o (.dK kv)) p2=some (.dK fk) by rw [upd_ne (Ne.symm na2)];exact hf)
      refine seq_asg ?_
      refine tlc_new (K:=K) (rest:=[some (.ref p2),some (.str g),some (.ref p1)]) (xs:=(touch hs ds (·.a) h).map V.int) (fun R hR5=>?_) rfl (by rw [List.length_map];have:=touch_len hs ds (·.a) h;exact small1000 (by omega)) (fun y=>match y with | .int i=>fitB hs ds h g i | _=>false) id (fun i y H6 R ey s56 hR6=>?_) (fun i y H6 R ey _ s6 hR6=>⟨_,rfl,hR6 H6 (Same.refl _)⟩) (fun D H6 nD hD s56=>?_)
      ·exact ⟨_,rfl,n,dn,_,rfl,(sHe.trans se) _ _ hn,rfl,_,rfl,n,a',b',hs,rs,ds,h,rfl,Nee,hRe,few,fun _ p5 H5 np5 s5 h5=>⟨p5,rfl,⟨_,SqL.of h5⟩,hR5 p5 H5 np5 s5 h5⟩,fun y=>absurd hm y⟩
      ·obtain ⟨k,d,rfl,ed',ea⟩:=touch_at ey
       obtain ⟨r,er⟩:∃r,rs[k]?=some r:=⟨_,List.getElem?_eq_getElem (by rw [hlen];exact (List.getElem?_eq_some_iff.mp ed').1)⟩
       obtain ⟨d',ed2,okd,hrd⟩:=hRe.get er
       rw [ed'] at ed2
       cases ed2
       obtain ⟨pb,kb,vb,nb2,nb1,hkb,Tb⟩:=hFm _ (mem_at okd.b)
       have TAa:TabAt H6 pa (farD hs ds h):=⟨kv,.inr ⟨o,s56 _ _ (se _ _ upd_same)⟩,Ta⟩
       have TAb:TabAt H6 pb (farD hs ds (S (hs.getD d.b []))):=by
        by_cases eb:pb=pa
        ·subst eb
         rw [hka] at hkb
         cases hkb
         exact ⟨kv,.inr ⟨o,s56 _ _ (se _ _ upd_same)⟩,Tb⟩
        ·exact ⟨kb,.inl (s56 _ _ (se _ _ (by rw [upd_ne eb];exact hkb))),Tb⟩
       have er2:L2.atI (refs rs) (k:Int)=some (.ref r):=atI_nat (by unfold refs;rw [List.getElem?_map,er];rfl)
       refine ⟨_,rfl,_,rfl,p1,_,_,_,rfl,rfl,SqL.of (s56 _ _ hp1e),er2,_,rfl,_,rfl,r,p2,pa,pb,hs,d,fk,g,_,_,rfl,s56 _ _ hrd,s56 _ _ hp2e,by rw [ea];exact va,vb,TAa,TAb,fun u hu=>⟨v,hv⟩,_,rfl,?_⟩
       have ep:fitB hs ds h g (k:Int)=begins (farD hs ds h) (farD hs ds (S (hs.getD d.b []))) g d.t:=by
        unfold fitB toI
        rw [Int.toNat_natCast,getD_of ed']
       rw [←ep]
       exact hR6 H6 (Same.refl _)
      ·have ef:(((touch hs ds (·.a) h).map V.int).filter fun y=>match y with | .int i=>fitB hs ds h g i | _=>false).map id=(fit hs ds h g).map V.int:=by
        rw [List.map_id,List.filter_map]
        rfl
       rw [ef] at hD
       refine ⟨_,rfl,x,dx,_,rfl,s56 _ _ hxe,rfl,_,rfl,_,rfl,_,rfl,D,_,rfl,SqL.of hD,fit_ne h9 hv hne,x,n,t,a',b',hs,rs,ds,kvs,h,g,_,rfl,⟨⟨dx,s56 _ _ hxe⟩,Nee.same s56,s56 _ _ hte⟩,G,hRe.same s56,few,th_nmS G hm,th_nmS G hg,small1000 (by have:=Be.few (by rw [List.length_map];exact few12);omega),fun _ _ H7 s7=>?_,fun y=>absurd (unlikeS hm hg hne) (by rw [y];decide),fun _ y=>absurd (best_mem h9 hv hne).1 y⟩
       have s57:=s56.trans s7
       refine ⟨_,_,_,rfl,upd_other (by rw [upd_ne nta];exact nt0) (se.trans s57),by rw [upd_ne (Ne.symm n4t)];exact s57 _ _ h4e,by rw [upd_ne tx];exact s57 _ _ hxe,upd_same,(Be.put hm hg).iff fun h' g'=>?_⟩
       constructor
       ·rintro ((y | ⟨a,b,j',z',hj,ez⟩) | ⟨rfl,rfl⟩)
        ·exact .inl y
        ·exact .inr ⟨a,b,j',z',by omega,ez⟩
        ·exact .inr ⟨rfl,hne,j,z,Nat.lt_succ_self _,ek⟩
       ·rintro (y | ⟨a,b,j',z',hj,ez⟩)
        ·exact .inl (.inl y)
        ·rcases Nat.lt_or_ge j' j with y | y
         ·exact .inl (.inr ⟨a,b,j',z',y,ez⟩)
         ·have:j'=j:=by omega
          subst this
          rw [ek] at ez
          cases ez
          exact .inr ⟨a,rfl⟩
    ·rintro σ He ⟨kvs,vg,vf,rfl,se,h4e,hxe,hte,Be⟩
     refine ⟨se _ _ upd_same,kvs,_,vg,vf,rfl,same_out hka se,by rw [upd_ne n4a];exact h4e,by rw [upd_ne nxa];exact hxe,by rw [upd_ne nta];exact hte,Be.iff fun h' g=>?_⟩
     constructor
     ·rintro (⟨⟨j,hj,ej⟩,b,c⟩ | ⟨rfl,b,j',z,_,ez⟩)
      ·exact ⟨⟨j,by omega,ej⟩,b,c⟩
      ·refine ⟨⟨i,Nat.lt_succ_self _,eh⟩,b,?_⟩
       have:=valV_memI (List.mem_of_getElem? ez)
       rw [Ta.at_] at this
       simpa using this
     ·rintro ⟨⟨j,hj,ej⟩,b,c⟩
      by_cases e:h'=h
      ·subst e
       have:(valV kv (Sum.inr g:Key)).isSome=true:=by rw [Ta.at_];simpa using c
       obtain ⟨j',z,ez⟩:=valV_memE this
       exact .inr ⟨rfl,b,j',z,(List.getElem?_eq_some_iff.mp ez).1,ez⟩
      ·refine .inl ⟨⟨j,?_,ej⟩,b,c⟩
       rcases Nat.lt_or_ge j i with y | y
       ·exact y
       ·have:j=i:=by omega
        subst this
        rw [eh] at ej
        cases ej
        exact absurd rfl e
   ·rintro σ Hd ⟨kvs,vh',vg,vf,rfl,sd,h4,hx,ht,BT⟩
    refine ⟨_,rfl,q x t Hd kvs (noneS (s1.trans sm) nx) (noneS (s1.trans sm) nt0) ((s1.trans sm).trans sd) ⟨⟨dx,hx⟩,Nc.same sd,ht⟩ ⟨BT.iff fun h g=>⟨fun ⟨⟨j,_,ej⟩,b,c⟩=>⟨List.mem_of_getElem? ej,b,c⟩,fun ⟨m,b,c⟩=>⟨?_,b,c⟩⟩⟩⟩
    obtain ⟨j,hj⟩:=List.getElem?_of_mem m
    exact ⟨j,by have:=(List.getElem?_eq_some_iff.mp hj).1;rw [List.length_map] at this;unfold txs;rw [List.length_map];exact this,hj⟩
end
end K1
namespace L3
open PySem PySem.Spec PyProof.Rows L2 PySem.W
structure LtOk (n:Nat) (lt:Nat→Nat→Bool):Prop where
 tr:∀i j k,lt i j=true→lt j k=true→lt i k=true
 to:∀i j,i < n→j < n→i≠j→lt i j=true∨lt j i=true
 ir:∀i,lt i i=false
noncomputable abbrev gx (p:Array Nat) (a:Nat):Nat:=p.getD a 0
noncomputable def SrtTo (lt:Nat→Nat→Bool) (p:Array Nat) (k:Nat):Prop:=∀a b,a < b→b < k→lt (gx p a) (gx p b)=true
theorem kRun_bind {α β:Type} (lt:Nat→Nat→Bool) (f:α→KasT β):∀t:KasT α,kRun lt (t.bind f)=kRun lt (f (kRun lt t))
 | .ret _=>rfl
 | .ask i j k=>kRun_bind lt f (k (lt i j))
theorem kRun_if {α:Type} (lt:Nat→Nat→Bool) {c:Prop} [Decidable c] (s t:KasT α):kRun lt (if c then s else t)=if c then kRun lt s else kRun lt t:=by split <;> rfl
theorem AB.size {n:Nat} {p:Array Nat} (h:AB n p):p.size=n:=by
 have:=h.list.length_eq
 simpa using this
theorem AB.inj {n:Nat} {p:Array Nat} (h:AB n p) {a b:Nat} (ha:a < n) (hb:b < n) (e:gx p a=gx p b):a=b:=by
 have nd:p.toList.Nodup:=h.list.nodup_iff.mpr List.nodup_range
 have sz:=h.size
 have e1:gx p a=p.toList[a]'(by simp;omega):=by simp [gx,Array.getD,show a < p.size by omega]
 have e2:gx p b=p.toList[b]'(by simp;omega):=by simp [gx,Array.getD,show b < p.size by omega]
 rw [e1,e2] at e
 exact (List.getElem_inj nd).mp e
section
variable {n:Nat} {lt:Nat→Nat→Bool}
theorem LtOk.or (o:LtOk n lt) {p:Array Nat} (h:AB n p) {a b:Nat} (ha:a < n) (hb:b < n) (ne:a≠b) (f:lt (gx p a) (gx p b)=false):lt (gx p b) (gx p a)=true:=by
 have h0:0 < n:=by omega
 rcases o.to (gx p a) (gx p b) (h.at h0 a) (h.at h0 b) (fun e=>ne (h.inj ha hb e)) with z | z
 ·rw [z] at f;cases f
 ·exact z
theorem SrtTo.succ (o:LtOk n lt) {p:Array Nat} {k:Nat} (s:SrtTo lt p k) (h1:1≤k) (h:lt (gx p (k - 1)) (gx p k)=true):SrtTo lt p (k+1):=fun a b hab hb=>by
 by_cases e:b=k
 ·subst e
  by_cases e2:a=b - 1
  ·rw [e2];exact h
  ·exact o.tr _ _ _ (s a (b - 1) (by omega) (by omega)) h
 ·exact s a b hab (by omega)
theorem asc_ok (o:LtOk n lt) {p:Array Nat} (h:AB n p):∀f k,1≤k→k+f≤n→SrtTo lt p k→∃m,kRun lt (kas_asc p f k)=m∧k≤m∧m≤k+f∧SrtTo lt p m∧(m < k+f→lt (gx p m) (gx p (m - 1))=true)
 | 0,k,h1,h2,s=>⟨k,rfl,Nat.le_refl _,Nat.le_refl _,s,fun z=>absurd z (by omega)⟩
 | f+1,k,h1,h2,s=>by
  show ∃m,kRun lt (if lt (gx p k) (gx p (k - 1))=true then .ret k else kas_asc p f (k+1))=m∧_
  cases e:lt (gx p k) (gx p (k - 1)) with
  | true=>
   rw [if_pos rfl]
   exact ⟨k,rfl,Nat.le_refl _,by omega,s,fun _=>e⟩
  | false=>
   rw [if_neg (by decide)]
   have up:=o.or h (a:=k) (b:=k - 1) (by omega) (by omega) (by omega) e
   obtain ⟨m,e1,e2,e3,e4,e5⟩:=asc_ok o h f (k+1) (by omega) (by omega) (s.succ o h1 up)
   exact ⟨m,e1,by omega,by omega,e4,fun z=>e5 (by omega)⟩
noncomputable def DscTo (lt:Nat→Nat→Bool) (p:Array Nat) (k:Nat):Prop:=∀a b,a < b→b < k→lt (gx p b) (gx p a)=true
theorem desc_ok (o:LtOk n lt) {p:Array Nat} (h:AB n p):∀f k,1≤k→k+f≤n→DscTo lt p k→∃m,kRun lt (kas_desc f p k 0)=(p,m,0)∧k≤m∧m≤k+f∧DscTo lt p m
 | 0,k,h1,h2,s=>⟨k,rfl,Nat.le_refl _,Nat.le_refl _,s⟩
 | f+1,k,h1,h2,s=>by
  show ∃m,kRun lt (if lt (gx p k) (gx p (k - 1))=true then (if 0 > 0 then kas_desc f (kas_rev p (k - (0+1)) k) (k+1) 0 else kas_desc f p (k+1) 0) else .ask (gx p (k - 1)) (gx p k) fun d=>if d=true then .ret (p,k,0) else kas_desc f p (k+1) (0+1))=(p,m,0)∧_
  cases e:lt (gx p k) (gx p (k - 1)) with
  | true=>
   rw [if_pos rfl,if_neg (by omega)]
   have s2:DscTo lt p (k+1):=fun a b hab hb=>by
    by_cases eb:b=k
    ·subst eb
     by_cases e2:a=b - 1
     ·rw [e2];exact e
     ·exact o.tr _ _ _ e (s a (b - 1) (by omega) (by omega))
    ·exact s a b hab (by omega)
   obtain ⟨m,e1,e2,e3,e4⟩:=desc_ok o h f (k+1) (by omega) (by omega) s2
   exact ⟨m,e1,by omega,by omega,e4⟩
  | false=>
   rw [if_neg (by decide)]
   have up:=o.or h (a:=k) (b:=k - 1) (by omega) (by omega) (by omega) e
   show ∃m,kRun lt (if lt (gx p (k - 1)) (gx p k)=true then .ret (p,k,0) else kas_desc f p (k+1) (0+1))=(p,m,0)∧_
   rw [if_pos up]
   exact ⟨k,rfl,Nat.le_refl _,by omega,s⟩
theorem gx_of {p q:Array Nat} {a b:Nat} (e:p[a]?=q[b]?):gx p a=gx q b:=by
 have f:∀(r:Array Nat) (c:Nat),gx r c=(r[c]?).getD 0:=fun r c=>by
  show r.getD c 0=_
  by_cases hc:c < r.size
  ·rw [Array.getElem?_eq_getElem hc]
   simp [Array.getD,hc]
  ·rw [Array.getElem?_eq_none (by omega)]
   simp [Array.getD,hc]
 rw [f,f,e]
theorem rev_at {p:Array Nat} {r i:Nat} (hr:r≤p.size) (hi:i < r):gx (kas_rev p 0 r) i=gx p (r - 1 - i):=by
 have h:=getElem?_mirror_all (xs:=p) (i:=0) (j:=r) hr i
 rw [if_pos ⟨Nat.zero_le _,hi⟩,show 0+r - 1 - i=r - 1 - i by omega] at h
 exact gx_of h
theorem tail3_ok (o:LtOk n lt) {p:Array Nat} (h:AB n p) {k:Nat} (h1:1≤k) (h2:k≤n) (s:DscTo lt p k):∃m q,kRun lt (kas_tail3 k n p)=(m,q)∧1≤m∧m≤n∧SrtTo lt q m∧AB n q:=by
 unfold kas_tail3
 rw [kRun_bind]
 have hr:=h.rev 0 k
 have sr:SrtTo lt (kas_rev p 0 k) k:=fun a b hab hb=>by
  rw [rev_at (by rw [h.size];exact h2) (by omega),rev_at (by rw [h.size];exact h2) hb]
  exact s _ _ (by omega) (by omega)
 obtain ⟨m,e1,e2,e3,e4,_⟩:=asc_ok o hr (n - k) k h1 (by omega) sr
 rw [e1]
 exact ⟨m,_,rfl,by omega,by omega,e4,hr⟩
theorem count_ok (o:LtOk n lt) {p:Array Nat} (h:AB n p) (h0:2≤n):∃m q,kRun lt (kas_count n p)=(m,q)∧1≤m∧m≤n∧SrtTo lt q m∧AB n q:=by
 unfold kas_count
 rw [kRun_bind]
 obtain ⟨m,e1,e2,e3,e4,e5⟩:=asc_ok o h (n - 1) 1 (Nat.le_refl _) (by omega) (fun a b hab hb=>by omega)
 rw [e1,kRun_if]
 by_cases c1:m=n
 ·rw [if_pos (by simpa using c1)]
  exact ⟨m,p,rfl,e2,by omega,e4,h⟩
 ·rw [if_neg (by simpa using c1),kRun_if]
  have lt1:=e5 (by omega)
  by_cases c2:m > 1
  ·rw [if_pos c2]
   show ∃m' q,kRun lt (if lt (gx p 0) (gx p (m - 1))=true then .ret (m,p) else kas_descPart m n (kas_rev p 0 m))=(m',q)∧_
   rw [if_pos (e4 0 (m - 1) (by omega) (by omega))]
   exact ⟨m,p,rfl,e2,by omega,e4,h⟩
  ·rw [if_neg c2]
   have m1:m=1:=by omega
   subst m1
   unfold kas_descPart
   rw [kRun_bind]
   obtain ⟨k,d1,d2,d3,d4⟩:=desc_ok o h (n - (1+1)) (1+1) (by omega) (by omega) (fun a b hab hb=>by
    have:a=0∧b=1:=by omega
    rw [this.1,this.2]
    exact lt1)
   rw [d1]
   show ∃m' q,kRun lt (if 0 > 0 then kas_tail3 k n (kas_rev p (k - (0+1)) k) else kas_tail3 k n p)=(m',q)∧_
   rw [if_neg (by omega)]
   exact tail3_ok o h (by omega) (by omega) d4
theorem place_ok (o:LtOk n lt) {p:Array Nat} (h:AB n p) {k:Nat} (hk:k < n) (s:SrtTo lt p k):∀f l r,l≤r→r≤k→r - l≤f→(∀a,a < l→lt (gx p a) (gx p k)=true)→(∀a,r≤a→a < k→lt (gx p k) (gx p a)=true)→
  ∃m,kRun lt (kas_place p k f l r)=m∧m≤k∧(∀a,a < m→lt (gx p a) (gx p k)=true)∧∀a,m≤a→a < k→lt (gx p k) (gx p a)=true
 | 0,l,r,h1,h2,h3,hl,hr=>⟨l,rfl,by omega,hl,fun a ha=>hr a (by omega)⟩
 | f+1,l,r,h1,h2,h3,hl,hr=>by
  show ∃m,kRun lt (if l ≥ r then .ret l else .ask (gx p k) (gx p ((l+r) / 2)) fun c=>if c=true then kas_place p k f l ((l+r) / 2) else kas_place p k f ((l+r) / 2+1) r)=m∧_
  by_cases c:l ≥ r
  ·rw [if_pos c]
   exact ⟨l,rfl,by omega,hl,fun a ha=>hr a (by omega)⟩
  ·rw [if_neg c]
   show ∃m,kRun lt (if lt (gx p k) (gx p ((l+r) / 2))=true then kas_place p k f l ((l+r) / 2) else kas_place p k f ((l+r) / 2+1) r)=m∧_
   have md:l≤(l+r) / 2∧(l+r) / 2 < r:=by omega
   cases e:lt (gx p k) (gx p ((l+r) / 2)) with
   | true=>
    rw [if_pos rfl]
    refine place_ok o h hk s f l ((l+r) / 2) md.1 (by omega) (by omega) hl fun a ha hak=>?_
    by_cases ea:a=(l+r) / 2
    ·rw [ea];exact e
    ·exact o.tr _ _ _ e (s _ _ (by omega) hak)
   | false=>
    rw [if_neg (by decide)]
    have up:=o.or h (a:=k) (b:=(l+r) / 2) hk (by omega) (by omega) e
    refine place_ok o h hk s f ((l+r) / 2+1) r (by omega) h2 (by omega) (fun a ha=>?_) hr
    by_cases ea:a=(l+r) / 2
    ·rw [ea];exact up
    ·exact o.tr _ _ _ (s a _ (by omega) (by omega)) up
theorem bub_at {p:Array Nat} {k l i:Nat} (hk:k < p.size) (hl:l≤k):gx (bubble p k (k - l)) i=if i=l then gx p k else if l < i∧i≤k then gx p (i - 1) else gx p i:=by
 have h:=getElem?_bubble (xs:=p) hk (k - l) (by omega) i
 rw [show k - (k - l)=l by omega] at h
 by_cases c:i=l
 ·rw [if_pos c] at h ⊢
  exact gx_of h
 ·rw [if_neg c] at h ⊢
  by_cases c2:l < i∧i≤k
  ·rw [if_pos c2] at h ⊢
   exact gx_of h
  ·rw [if_neg c2] at h ⊢
   exact gx_of h
theorem bin_ok (o:LtOk n lt):∀(f:Nat) (p:Array Nat) (k:Nat),AB n p→SrtTo lt p k→k+f=n→SrtTo lt (kRun lt (kas_bin f p k)) n
 | 0,p,k,h,s,e=>by
  have:k=n:=by omega
  subst this
  exact s
 | f+1,p,k,h,s,e=>by
  show SrtTo lt (kRun lt ((kas_place p k k 0 k).bind fun l=>kas_bin f (bubble p k (k - l)) (k+1))) n
  rw [kRun_bind]
  obtain ⟨m,e1,e2,e3,e4⟩:=place_ok o h (k:=k) (by omega) s k 0 k (Nat.zero_le _) (Nat.le_refl _) (by omega) (fun a ha=>absurd ha (by omega)) (fun a h1 h2=>absurd h2 (by omega))
  rw [e1]
  refine bin_ok o f _ _ (h.bub _ _) (fun a b hab hb=>?_) (by omega)
  have hk:k < p.size:=by rw [h.size];omega
  rw [bub_at hk e2,bub_at hk e2]
  by_cases a1:a=m
  ·rw [if_pos a1,if_neg (by omega),if_pos ⟨by omega,by omega⟩]
   exact e4 (b - 1) (by omega) (by omega)
  ·rw [if_neg a1]
   by_cases b1:b=m
   ·rw [if_pos b1,if_neg (by omega)]
    exact e3 a (by omega)
   ·rw [if_neg b1]
    by_cases a2:m < a∧a≤k
    ·rw [if_pos a2,if_pos ⟨by omega,by omega⟩]
     exact s _ _ (by omega) (by omega)
    ·rw [if_neg a2]
     by_cases b2:m < b∧b≤k
     ·rw [if_pos b2]
      exact s _ _ (by omega) (by omega)
     ·rw [if_neg b2]
      exact s _ _ hab (by omega)
theorem srtIx_sorted (o:LtOk n lt):(srtIx lt n).Pairwise fun i j=>lt i j=true:=by
 unfold srtIx
 by_cases h2:n < 2
 ·rw [if_pos h2]
  have:n=0∨n=1:=by omega
  rcases this with e | e <;> subst e <;> simp [List.range_succ]
 ·rw [if_neg h2]
  have hr:AB n (List.toArray (List.range n)):=Array.Perm.refl _
  unfold kas_sort
  rw [kRun_bind]
  obtain ⟨m,q,e1,e2,e3,e4,e5⟩:=count_ok o hr (by omega)
  rw [e1]
  show ((kRun lt (if m < n then kas_bin (n - max m 1) q (max m 1) else .ret q)).toList).Pairwise _
  have mx:max m 1=m:=by omega
  rw [mx]
  have fin:∀q':Array Nat,AB n q'→SrtTo lt q' n→q'.toList.Pairwise fun i j=>lt i j=true:=fun q' a s=>by
   rw [List.pairwise_iff_getElem]
   intro i j hi hj hij
   have hj':j < n:=by rw [←a.size];simpa using hj
   have:=s i j hij hj'
   have si:i < q'.size:=by rw [a.size];omega
   have sj:j < q'.size:=by rw [a.size];omega
   have f1:gx q' i=q'[i]:=by simp [gx,Array.getD,si]
   have f2:gx q' j=q'[j]:=by simp [gx,Array.getD,sj]
   rw [f1,f2] at this
   simpa using this
  by_cases c:m < n
  ·rw [if_pos c]
   refine fin _ ?_ (bin_ok o _ _ _ e5 e4 (by omega))
   exact kRun_has (lt:=lt) _ (bin_b (by omega) _ _ _ e5)
  ·rw [if_neg c]
   have:m=n:=by omega
   subst this
   exact fin q e5 e4
end
open PySem PySem.Spec PyProof.Rows L2 PySem.W
section
variable {X:Cx}
noncomputable def ltI (ns:List Int) (i j:Nat):Bool:=decide (i < ns.length∧j < ns.length∧ns.getD i 0 < ns.getD j 0)
theorem ltI_ok {ns:List Int} (nd:ns.Nodup):LtOk ns.length (ltI ns) where
 tr:=fun i j k h1 h2=>by
  have h1:=of_decide_eq_true h1
  have h2:=of_decide_eq_true h2
  exact decide_eq_true ⟨h1.1,h2.2.1,by omega⟩
 to:=fun i j hi hj ne=>by
  have e1:ns.getD i 0=ns[i]:=by rw [List.getD,List.getElem?_eq_getElem hi];rfl
  have e2:ns.getD j 0=ns[j]:=by rw [List.getD,List.getElem?_eq_getElem hj];rfl
  have dn:ns.getD i 0≠ns.getD j 0:=fun z=>ne ((List.getElem_inj nd).mp (by rw [←e1,←e2];exact z))
  rcases Int.lt_or_lt_of_ne dn with z | z
  ·exact .inl (decide_eq_true ⟨hi,hj,z⟩)
  ·exact .inr (decide_eq_true ⟨hj,hi,z⟩)
 ir:=fun i=>decide_eq_false fun z=>by omega
noncomputable def sortI (ns:List Int):List Int:=srtL 0 (ltI ns) ns
theorem sortI_perm (ns:List Int):(sortI ns).Perm ns:=srtL_perm _ _ _
theorem sortI_up {ns:List Int} (nd:ns.Nodup):(sortI ns).Pairwise (· < ·):=by
 unfold sortI srtL
 rw [List.pairwise_map]
 exact (srtIx_sorted (ltI_ok nd)).imp fun z=>(of_decide_eq_true z).2.2
theorem sortI_V (ns:List Int):srtL V.non (ltI ns) (ns.map V.int)=(sortI ns).map V.int:=by
 unfold sortI srtL
 rw [List.map_map,List.length_map]
 refine List.map_congr_left fun i hi=>?_
 have:=srtIx_lt hi
 show (ns.map V.int).getD i .non=V.int (ns.getD i 0)
 rw [List.getD,List.getElem?_map,List.getElem?_eq_getElem this,List.getD,List.getElem?_eq_getElem this]
 rfl
section
variable {prog:Program} {w:World} {A:Around} {s:Shared} {ns:List Int} {us:List Value}
theorem ints_at (r:Vals (ns.map V.int) us) {i:Nat} (hi:i < us.length):∃t,us.getD i Value.none=.int (ns.getD i 0) t:=by
 have hl:=r.length
 rw [List.length_map] at hl
 obtain ⟨u,hu,t,rfl⟩:=r.get (x:=V.int (ns.getD i 0)) (i:=i) (by rw [List.getElem?_map,List.getElem?_eq_getElem (by omega),List.getD,List.getElem?_eq_getElem (by omega)];rfl)
 exact ⟨t,by rw [List.getD,hu];rfl⟩
theorem ints_kind (r:Vals (ns.map V.int) us) (h2:2≤us.length) {Q:SortKind→Shared→Prop} (h:Q oneType' s):wpAny (model prog w) A (keyKind' us.toArray) Q (fun _ _=>False) s:=by
 refine kas_kind (T:=.type "int") h2 (fun v hv=>?_) (by decide+kernel) (by decide+kernel) h
 obtain ⟨i,hi,rfl⟩:=List.getElem_of_mem hv
 obtain ⟨t,e⟩:=ints_at r hi
 rw [List.getD,List.getElem?_eq_getElem hi] at e
 have e:us[i]=.int (ns.getD i 0) t:=e
 rw [e]
 exact Looks.of_pure rfl
theorem ints_ask (r:Vals (ns.map V.int) us) {i j:Nat} (hi:i < us.length) (hj:j < us.length) {C:Bool→Shared→Prop} (h:C (ltI ns i j) s):kas_ask prog w A oneType' us i j C s:=by
 have hl:=r.length
 rw [List.length_map] at hl
 obtain ⟨t,e1⟩:=ints_at r hi
 obtain ⟨u,e2⟩:=ints_at r hj
 unfold kas_ask
 rw [e1,e2]
 refine kat_lt_int ?_
 have e:ltI ns i j=decide (ns.getD i 0 < ns.getD j 0):=decide_eq_decide.mpr ⟨fun z=>z.2.2,fun z=>⟨by omega,by omega,z⟩⟩
 rw [←e]
 exact h
end
theorem mix_int {P:Program} {w:World} {n:Int} {v:Value} (h:(mixKind P w).is (.inl n) v=true):RelV (V.int n) v:=by
 obtain ⟨t,e⟩:=Value.isInt_shape h
 exact ⟨t,e⟩
end
open PySem PySem.Spec PyProof.Rows L2
end L3
namespace K1
open PySem L2 L3 M1
theorem perm_eq {α:Type} {R:α→α→Prop} (as:∀a b,R a b→R b a→False):∀{a b:List α},a.Perm b→a.Pairwise R→b.Pairwise R→a=b
 | [],b,p,_,_=>p.nil_eq
 | x::a,[],p,_,_=>absurd p.length_eq (by simp)
 | x::a,y::b,p,sa,sb=>by
  rw [List.pairwise_cons] at sa sb
  have exy:x=y:=by
   rcases List.mem_cons.mp (p.mem_iff.mp (.head _):x∈y::b) with e | e
   ·exact e
   ·rcases List.mem_cons.mp (p.mem_iff.mpr (.head _):y∈x::a) with e2 | e2
    ·exact e2.symm
    ·exact (as _ _ (sa.1 y e2) (sb.1 x e)).elim
  subst exy
  rw [perm_eq as (List.Perm.cons_inv p) sa.2 sb.2]
noncomputable def pV (c:Int × Nat):List L2.V:=[.int c.1,.int (c.2:Int)]
noncomputable def pK (c:Int × Nat):List Key:=[.inl c.1,.inl (c.2:Int)]
theorem pK_shape (cs:List (Int × Nat)):∀d∈cs.map pK,kSh d=true::[true]:=fun d hd=>by
 obtain ⟨r,_,rfl⟩:=List.mem_map.mp hd
 rfl
noncomputable def pairsS (cs:List (Int × Nat)):List (Int × Nat):=(srtIx (ltK (cs.map pK)) cs.length).map fun i=>cs.getD i (0,0)
theorem pairsS_perm (cs:List (Int × Nat)):(pairsS cs).Perm cs:=by
 unfold pairsS
 refine ((srtIx_perm _ _).map _).trans ?_
 rw [show (List.range cs.length).map (fun i=>cs.getD i (0,0))=cs from ?_]
 refine List.ext_getElem (by simp) fun i h1 h2=>?_
 rw [List.getElem_map,List.getElem_range,List.getD,List.getElem?_eq_getElem h2]
 rfl
theorem pairs_keys {H:Hp}:∀{ts:List Addr} {cs:List (Int × Nat)},Tups H ts (cs.map pV)→Paired (fun r d=>H r=some (.tup (d.map kV))) ts (cs.map pK)
 | _,[],h=>by cases h;exact .nil
 | _,c::cs,h=>by cases h with | cons a t=>exact .cons a (pairs_keys t)
theorem pairs_srt {H:Hp} {ts:List Addr} {cs:List (Int × Nat)} (tp:Tups H ts (cs.map pV)):∃ts',srtL V.non (ltK (cs.map pK)) (refs ts)=refs ts'∧Tups H ts' ((pairsS cs).map pV):=by
 have ln:(refs ts).length=cs.length:=by
  have:=tp.len
  rw [List.length_map] at this
  rw [refs_len,this]
 unfold srtL pairsS
 rw [ln]
 have all:∀is:List Nat,(∀i∈is,i < cs.length)→∃ts',(is.map fun i=>(refs ts).getD i .non)=refs ts'∧Tups H ts' ((is.map fun i=>cs.getD i (0,0)).map pV):=fun is=>by
  induction is with
  | nil=>intro _;exact ⟨[],rfl,.nil⟩
  | cons i q ih=>
   intro hi
   obtain ⟨ts',e1,tp'⟩:=ih fun j hj=>hi j (.tail _ hj)
   have lt:=hi i (.head _)
   have lt2:i < ts.length:=by rw [refs_len] at ln;omega
   have e2:ts[i]?=some ts[i]:=List.getElem?_eq_getElem lt2
   obtain ⟨y,h1,h2⟩:=Paired.get tp e2
   rw [List.getElem?_map,List.getElem?_eq_getElem lt] at h1
   cases h1
   refine ⟨ts[i]::ts',?_,.cons ?_ tp'⟩
   ·rw [List.map_cons,e1]
    show (refs ts).getD i .non::refs ts'=V.ref ts[i]::refs ts'
    congr 1
    show ((refs ts)[i]?).getD .non=_
    unfold refs
    rw [List.getElem?_map,e2]
    rfl
   ·show H ts[i]=some (HO.tup (pV (cs.getD i (0,0))))
    rw [show cs.getD i (0,0)=cs[i] by rw [List.getD,List.getElem?_eq_getElem lt];rfl]
    exact h2
 exact all _ fun i hi=>srtIx_lt hi
noncomputable def natI (ns:List Nat):List Int:=ns.map fun n:Nat=>(n:Int)
noncomputable def sortN (ns:List Nat):List Nat:=(sortI (natI ns)).map Int.toNat
theorem natI_nd {ns:List Nat} (nd:ns.Nodup):(natI ns).Nodup:=List.pairwise_map.mpr (nd.imp fun h z=>h (by omega))
theorem sortN_I (ns:List Nat):natI (sortN ns)=sortI (natI ns):=by
 unfold sortN natI
 rw [List.map_map]
 have:∀x∈sortI (ns.map fun n:Nat=>(n:Int)),((fun n:Nat=>(n:Int))∘Int.toNat) x=x:=fun x hx=>by
  obtain ⟨n,_,rfl⟩:=List.mem_map.mp ((sortI_perm _).mem_iff.mp hx)
  rfl
 rw [List.map_congr_left this,List.map_id']
theorem sortN_perm (ns:List Nat):(sortN ns).Perm ns:=by
 have h:=(sortI_perm (natI ns)).map Int.toNat
 have e:(natI ns).map Int.toNat=ns:=by
  unfold natI
  rw [List.map_map]
  have:∀x∈ns,(Int.toNat∘fun n:Nat=>(n:Int)) x=x:=fun x _=>Int.toNat_natCast x
  rw [List.map_congr_left this,List.map_id']
 rw [e] at h
 exact h
theorem sortN_up {ns:List Nat} (nd:ns.Nodup):(sortN ns).Pairwise (· < ·):=by
 have h:=sortI_up (natI_nd nd)
 rw [←sortN_I] at h
 unfold natI at h
 exact (List.pairwise_map.mp h).imp fun z=>by omega
noncomputable def bagN (room:Int) (q:List (Int × Nat)):List Nat:=sortN (((pairsS q).take room.toNat).map (·.2))
noncomputable def enE (E:List (Nat × Addr)):List (Key × L2.V):=E.map fun e=>(Sum.inl (e.1:Int),.ref e.2)
structure QAt (H0 H:Hp) (p:Addr) (E:List (Nat × Addr)) (q:Nat→List (Int × Nat)):Prop where
 tab:H p=some (.dK (enE E))
 nk:(E.map (·.1)).Nodup
 na:(E.map (·.2)).Nodup
 each:∀e∈E,H0 e.2=none∧e.2≠p∧∃ts,H e.2=some (.lst (refs ts))∧Tups H ts ((q e.1).map pV)
theorem QAt.same {H0 H H':Hp} {p:Addr} {E:List (Nat × Addr)} {q:Nat→List (Int × Nat)} (h:QAt H0 H p E q) (sm:Same H H'):QAt H0 H' p E q:=
 ⟨sm _ _ h.tab,h.nk,h.na,fun e he=>let ⟨a,b,ts,c,d⟩:=h.each e he;⟨a,b,ts,sm _ _ c,d.same sm⟩⟩
theorem valE_mem:∀{E:List (Nat × Addr)},(E.map (·.1)).Nodup→∀{r:Nat} {l:Addr},(r,l)∈E→valV (enE E) (Sum.inl (r:Int):Key)=some (.ref l)
 | [],_,_,_,h=>nomatch h
 | (r0,l0)::E,nd,r,l,h=>by
  rw [List.map_cons,List.nodup_cons] at nd
  rcases List.mem_cons.mp h with e | e
  ·cases e
   exact valV_pos rfl
  ·show valV ((Sum.inl (r0:Int),V.ref l0)::enE E) _=_
   rw [valV_neg (fun z=>nd.1 (by
    have z':(r0:Int)=(r:Int):=Sum.inl.inj z
    have:r0=r:=by omega
    rw [this]
    exact List.mem_map.mpr ⟨_,e,rfl⟩))]
   exact valE_mem nd.2 e
theorem valE_no:∀{E:List (Nat × Addr)} {r:Nat},r∉E.map (·.1)→valV (enE E) (Sum.inl (r:Int):Key)=none
 | [],_,_=>rfl
 | (r0,l0)::E,r,h=>by
  show valV ((Sum.inl (r0:Int),V.ref l0)::enE E) _=_
  rw [valV_neg (fun z=>h (by
   have z':(r0:Int)=(r:Int):=Sum.inl.inj z
   have:r0=r:=by omega
   rw [this]
   exact .head _))]
  exact valE_no fun z=>h (.tail _ z)
theorem QAt.new {H0 H:Hp} {p pz:Addr} {E:List (Nat × Addr)} {q:Nat→List (Int × Nat)} (h:QAt H0 H p E q) {r:Nat} (hr:r∉E.map (·.1)) (q0:q r=[]) (nz:H0 pz=none) (hz:H pz=some (.lst [])) (nE:∀e∈E,e.2≠pz):
  QAt H0 (upd H p (.dK (putK (enE E) (Sum.inl (r:Int)) (.ref pz)))) p (E++[(r,pz)]) q:=by
 have np:pz≠p:=fun z=>by rw [z,h.tab] at hz;cases hz
 refine ⟨?_,?_,?_,fun e he=>?_⟩
 ·rw [upd_same,putK_new _ (valE_no hr)]
  unfold enE
  rw [List.map_append]
  rfl
 ·rw [List.map_append]
  exact nodup_snoc h.nk hr
 ·rw [List.map_append]
  refine nodup_snoc h.na fun z=>?_
  obtain ⟨e,he,e2⟩:=List.mem_map.mp z
  exact nE e he e2
 ·rcases List.mem_append.mp he with z | z
  ·obtain ⟨a,b,ts,c,d⟩:=h.each e z
   exact ⟨a,b,ts,by rw [upd_ne b];exact c,d.upd h.tab (by intro d z;cases z)⟩
  ·rw [List.mem_singleton.mp z]
   refine ⟨nz,np,[],by rw [upd_ne np];exact hz,?_⟩
   show Tups _ [] ((q r).map pV)
   rw [q0]
   exact .nil
theorem QAt.add {H0 H:Hp} {p l t:Addr} {E:List (Nat × Addr)} {q:Nat→List (Int × Nat)} {ts:List Addr} (h:QAt H0 H p E q) {r:Nat} (hr:(r,l)∈E) {c:Int × Nat} (hl:H l=some (.lst (refs ts))) (tp:Tups H ts ((q r).map pV)) (ht:H t=some (.tup (pV c))) (hn:H0 t=none):
  QAt H0 (upd H l (.lst (refs ts++[V.ref t]))) p E (fun r'=>if r'=r then q r++[c] else q r'):=by
 obtain ⟨a0,b0,_⟩:=h.each _ hr
 have b0:l≠p:=b0
 have uniq:∀e∈E,e.2=l→e=(r,l):=fun e he z=>by
  obtain ⟨i,hi,ei⟩:=List.getElem_of_mem he
  obtain ⟨j,hj,ej⟩:=List.getElem_of_mem hr
  have e1:(E.map (·.2))[i]'(by rw [List.length_map];exact hi)=(E.map (·.2))[j]'(by rw [List.length_map];exact hj):=by
   rw [List.getElem_map,List.getElem_map,ei,ej,z]
  have:=(List.getElem_inj h.na).mp e1
  subst this
  rw [←ei,ej]
 refine ⟨by rw [upd_ne (Ne.symm b0)];exact h.tab,h.nk,h.na,fun e he=>?_⟩
 obtain ⟨a,b,ts',c',d⟩:=h.each e he
 refine ⟨a,b,?_⟩
 by_cases z:e.2=l
 ·obtain rfl:=uniq e he z
  refine ⟨ts++[t],by rw [upd_same,refs_snoc],?_⟩
  show Tups _ _ ((if r=r then q r++[c] else q r).map pV)
  rw [if_pos rfl,List.map_append]
  exact Tups.upd (Paired.snoc (F:=fun r d=>H r=some (.tup d)) ht tp) hl (by intro d z;cases z)
 ·refine ⟨ts',by rw [upd_ne z];exact c',?_⟩
  have nr:e.1≠r:=fun y=>z (by
   obtain ⟨i,hi,ei⟩:=List.getElem_of_mem he
   obtain ⟨j,hj,ej⟩:=List.getElem_of_mem hr
   have e1:(E.map (·.1))[i]'(by rw [List.length_map];exact hi)=(E.map (·.1))[j]'(by rw [List.length_map];exact hj):=by
    rw [List.getElem_map,List.getElem_map,ei,ej,y]
   have:=(List.getElem_inj h.nk).mp e1
   subst this
   rw [←ei,ej])
  show Tups _ _ ((if e.1=r then q r++[c] else q e.1).map pV)
  rw [if_neg nr]
  exact d.upd hl (by intro d z;cases z)
noncomputable def qOf (due:Nat→Int) (rd:Nat→Nat) (T:Int) (go:List Nat) (r:Nat):List (Int × Nat):=(go.filter fun n=>decide (due n≤T) && decide (rd n=r)).map fun n=>(due n,n)
theorem qOf_no {due:Nat→Int} {rd:Nat→Nat} {T:Int} {go:List Nat} {n:Nat} (h:¬due n≤T):qOf due rd T (go++[n])=qOf due rd T go:=by
 funext r
 unfold qOf
 rw [List.filter_append,List.map_append]
 simp [List.filter_cons,h]
theorem qOf_yes {due:Nat→Int} {rd:Nat→Nat} {T:Int} {go:List Nat} {n:Nat} (h:due n≤T):qOf due rd T (go++[n])=fun r'=>if r'=rd n then qOf due rd T go (rd n)++[(due n,n)] else qOf due rd T go r':=by
 funext r
 unfold qOf
 rw [List.filter_append,List.map_append]
 by_cases e:r=rd n
 ·subst e
  simp [List.filter_cons,h]
 ·simp [List.filter_cons,h,e,Ne.symm e]
theorem qOf_len (due:Nat→Int) (rd:Nat→Nat) (T:Int) (go:List Nat) (r:Nat):(qOf due rd T go r).length≤go.length:=by
 unfold qOf
 rw [List.length_map]
 exact List.length_filter_le _ _
noncomputable def GoesOn (hs:List (List Nat)) (kvs:DTs) (gs:List Str) (sss:List (List Step)) (due:Nat→Int) (rd:Nat→Nat) (n:Nat):Prop:=∃(ss:List Step) (s:Step) (y:Str),sss[n]?=some (ss++[s])∧s.due=due n∧gs[n]?=some y∧s.house∈hs.map S∧y∈hs.map S∧s.house≠y∧valV kvs (pk s.house y)=some (.int (rd n:Int))
noncomputable def natV (go:List Nat):List L2.V:=go.map fun n:Nat=>V.int (n:Int)
noncomputable def StaysOn (hs:List (List Nat)) (kvs:DTs) (gs:List Str) (sss:List (List Step)) (due:Nat→Int) (n:Nat):Prop:=∃(ss:List Step) (s:Step) (y:Str),sss[n]?=some (ss++[s])∧s.due=due n∧gs[n]?=some y∧s.house∈hs.map S∧y∈hs.map S∧s.house≠y∧valV kvs (pk s.house y)=none
noncomputable def OnOrNot (hw:Nat→Bool) (hs:List (List Nat)) (kvs:DTs) (gs:List Str) (sss:List (List Step)) (due:Nat→Int) (rd:Nat→Nat) (n:Nat):Prop:=(hw n=true∧GoesOn hs kvs gs sss due rd n)∨(hw n=false∧StaysOn hs kvs gs sss due n)
noncomputable def spQs (K:PySem.W.Frag) (C CW CN:Addr):Sp:=fun vs H Q _=>∃(x n g st gl y n' t a' b':Addr) (gs:List Str) (ls:List Addr) (sss:List (List Step)) (hs:List (List Nat)) (ys:List L2.V) (kvs:DTs) (go:List Nat) (hw:Nat→Bool) (due:Nat→Int) (rd:Nat→Nat) (T:Int),vs=[.ref x,.ref gl,.ref y,.int T]∧
 WalkAt C H x n g st gs ls sss∧SqL K H gl (natV go)∧WaysAt CW CN H y n' t a' b' (txs hs) ys kvs∧Good hs∧go.length≤100∧(∀k∈go,OnOrNot hw hs kvs gs sss due rd k)∧
 ∀(p:Addr) (H':Hp) (E:List (Nat × Addr)),H p=none→Same H H'→QAt H H' p E (qOf due rd T (go.filter hw))→(∀r,r∈E.map (·.1)↔qOf due rd T (go.filter hw) r≠[])→Q (.ref p) H'
section
variable {P:Program} {w:World} {K:PySem.W.Frag} {mg:Str→Option Value} {base:Heap}
noncomputable abbrev sQs:Stmt:=top 22
theorem scQs:FnScope ["walk","going","ways","turn","queues","number","came","road"] ["walk","going","ways","turn"] (defScope sQs):=⟨rfl,rfl,rfl,by decide+kernel,rfl,by decide+kernel,by decide+kernel⟩
theorem ok_qs {C CW CN NH f f1 f2 f3 f4:Addr} {fd fd1 fd2 fd3 fd4:FuncData} (F:Fun K "queues_at" "queues_at" sQs f fd) (WC:WalkC K C) (WW:WaysC K CW)
  (M_Walk_last_turn:Mn K C "last_turn" "Walk.last_turn" sLastT ["self","number"] f1 fd1) (G_Walk_last_turn:FnOk P w K mg base CX0 1 f1 fd1 ["self","number"] (spLastT C))
  (M_Walk_last_house:Mn K C "last_house" "Walk.last_house" sLastH ["self","number"] f2 fd2) (G_Walk_last_house:FnOk P w K mg base CX0 1 f2 fd2 ["self","number"] (spLastH C))
  (M_Walk_goal:Mn K C "goal" "Walk.goal" sGoal ["self","number"] f3 fd3) (G_Walk_goal:FnOk P w K mg base CX0 1 f3 fd3 ["self","number"] (spGoal C))
  (M_Ways_way:Mn K CW "way" "Ways.way" sWy ["self","house","goal"] f4 fd4) (G_Ways_way:FnOk P w K mg base (CXe P w) 3 f4 fd4 ["self","house","goal"] (spWy CW CN NH)):
  FnOk P w K mg base CX0 4 f fd ["walk","going","ways","turn"] (spQs K C CW CN):=by
 have Cl_Walk:=WC.cl
 have Cl_Ways:=WW.cl
 refine F.ok scQs (fun vs H Q E h=>?_) (fun cdv A outer s H vs Q E hr h=>?_)
 ·obtain ⟨x,n,g,st,gl,y,n',t,a',b',gs,ls,sss,hs,ys,kvs,go,hw,due,rd,T,rfl,_⟩:=h
  rfl
 ·obtain ⟨x,n,g,st,gl,y,n',t,a',b',gs,ls,sss,hs,ys,kvs,go,hw,due,rd,T,rfl,W,hgo,Wy,G,few,ok,q⟩:=h
  obtain ⟨dx,hx⟩:=W.ins
  obtain ⟨dy,hy⟩:=Wy.ins
  refine ⟨_,(pss_cons (ps_set (i:=4) scQs.nd rfl (Or.inl rfl) pe_dnewK)
   (pss_cons (ps_for PassesOwn.never rfl (pi_list (pv 1)) (pg_name (i:=5) scQs.nd rfl (Or.inl rfl))
    (pss_cons (ps_set (i:=6) scQs.nd rfl (Or.inl rfl) (pe_meth (pv 0) Cl_Walk M_Walk_last_turn.me G_Walk_last_turn (hr.mono (by decide)) M_Walk_last_turn.bd .nil pass0 (pa_cons (pv 5) pa_nil)))
   (pss_one (ps_if (pt_cmpR op_le (pv 6) (pv 3) (nomark _)) (pss_cons (ps_set (i:=7) scQs.nd rfl (Or.inl rfl) (pe_meth (pv 2) Cl_Ways M_Ways_way.me G_Ways_way (hr.mono (by decide)) M_Ways_way.bd .nil passE (pa_cons (pe_meth (pv 0) Cl_Walk M_Walk_last_house.me G_Walk_last_house (hr.mono (by decide)) M_Walk_last_house.bd .nil pass0 (pa_cons (pv 5) pa_nil)) (pa_cons (pe_meth (pv 0) Cl_Walk M_Walk_goal.me G_Walk_goal (hr.mono (by decide)) M_Walk_goal.bd .nil pass0 (pa_cons (pv 5) pa_nil)) pa_nil))))
   (pss_one (ps_if (pt_cmpR op_notN (pv 7) pe_non (nomark _)) (pss_one (ps_expr (pe_bm PySem.F.plainAttrs_list PySem.F.slot_list_append PySem.F.type_list_append mt_append (pe_sdefK (pv 4) (pv 7) (pe_lst pa_nil) ⟨rfl,rfl,rfl,rfl⟩) (pa_cons (pe_tup (pa_cons (pv 6) (pa_cons (pv 5) pa_nil))) pa_nil)))) pss_nil))) pss_nil))))
   (pss_one (ps_ret (pv 4))))),?_⟩
  refine fun p hp=>?_
  have s0:Same H (upd H p (.dK [])):=upd_free hp
  refine ⟨_,rfl,gl,rfl,⟨_,s0.seq hgo⟩,?_⟩
  refine for_list (xs:=natV go) (fun i σ Hc=>∃(E:List (Nat × Addr)) (v1 v2 v3:Option L2.V),σ=[some (.ref x),some (.ref gl),some (.ref y),some (.int T),some (.ref p),v1,v2,v3]∧Same H Hc∧QAt H Hc p E (qOf due rd T ((go.take i).filter hw))∧(∀r,r∈E.map (·.1)↔qOf due rd T ((go.take i).filter hw) r≠[])∧E.length≤i)
   ⟨[],none,none,none,rfl,s0,⟨upd_same,List.nodup_nil,List.nodup_nil,fun e he=>nomatch he⟩,fun r=>⟨fun z=>(nomatch z),fun z=>absurd rfl z⟩,Nat.le_refl _⟩ (fun i σ Hc _ ⟨_,_,_,_,_,h,_⟩=>h.seq hgo) ?_ ?_
  ·rintro i z σ Hc ez ⟨E,v1,v2,v3,rfl,sm,qa,mem,le⟩
   unfold natV at ez
   rw [List.getElem?_map] at ez
   obtain ⟨k,ek,rfl⟩:=Option.map_eq_some_iff.mp ez
   have il:i < go.length:=(List.getElem?_eq_some_iff.mp ek).1
   have tk:go.take (i+1)=go.take i++[k]:=by
    rw [List.take_add_one,ek]
    rfl
   have Wc:=W.same sm
   rcases ok k (List.mem_of_getElem? ek) with ⟨hwk,ss,s1,y1,e1,e2,e3,e4,e5,e6,e7⟩ | ⟨hwk,ss,s1,y1,e1,e2,e3,e4,e5,e6,e7⟩
   ·have tk:(go.take (i+1)).filter hw=(go.take i).filter hw++[k]:=by
     rw [tk,List.filter_append,List.filter_cons,if_pos hwk,List.filter_nil]
    refine ⟨_,rfl,x,dx,_,rfl,sm _ _ hx,rfl,_,rfl,x,n,g,st,gs,ls,sss,k,ss,s1,rfl,Wc,e1,?_⟩
    refine ⟨_,rfl,_,rfl,_,_,rfl,rfl,_,rfl,?_⟩
    by_cases hd:due k≤T
    ·refine iteB (decide_eq_true (by rw [e2];exact hd)) ?_
     refine ⟨_,rfl,y,dy,_,rfl,sm _ _ hy,rfl,_,rfl,x,dx,_,rfl,sm _ _ hx,rfl,_,rfl,x,n,g,st,gs,ls,sss,k,ss,s1,rfl,Wc,e1,_,rfl,x,dx,_,rfl,sm _ _ hx,rfl,_,rfl,x,n,g,st,gs,ls,sss,k,y1,rfl,Wc,e3,?_⟩
     refine ⟨y,n',t,a',b',hs,_,kvs,s1.house,y1,rfl,Wy.same sm,G,th_nmS G e4,th_nmS G e5,fun _ H2 s2=>?_,fun z=>absurd (unlikeS e4 e5 e6) (by rw [z];decide)⟩
     rw [e7]
     refine ⟨_,rfl,rfl,_,rfl,iteB (by simp) ?_⟩
     have sm2:=sm.trans s2
     have qa2:=qa.same s2
     refine ⟨_,rfl,p,rfl,.inl ⟨_,.inl qa2.tab⟩,_,rfl,Nat.zero_le _,fun pz npz=>?_⟩
     have s3:=upd_free (o:=.lst []) npz
     have qa3:=qa2.same s3
     have sm3:=sm2.trans s3
     have hz:upd H2 pz (.lst []) pz=some (.lst []):=upd_same
     have npzH:=noneS sm2 npz
     have nE:∀e∈E,e.2≠pz:=fun e he z=>by
      obtain ⟨_,_,ts,c,_⟩:=qa2.each e he
      rw [z,npz] at c
      cases c
     generalize upd H2 pz (.lst [])=H3 at s3 qa3 sm3 hz ⊢
     have el:(enE E).length=E.length:=List.length_map _
     refine ⟨enE E,Sum.inl (rd k:Int),rfl,qa3.tab,small1000 (by omega),fun v hv=>?_,fun h0=>?_⟩
     ·have hin:rd k∈E.map (·.1):=by
       by_cases z:rd k∈E.map (·.1)
       ·exact z
       ·rw [valE_no z] at hv
        cases hv
      obtain ⟨⟨r0,l⟩,he,e0⟩:=List.mem_map.mp hin
      have e0:r0=rd k:=e0
      subst e0
      rw [valE_mem qa3.nk he] at hv
      cases hv
      obtain ⟨nl,_,ts,hl,tp⟩:=qa3.each _ he
      refine ⟨.inl ⟨rfl,_,SqL.of hl⟩,_,rfl,_,rfl,(by show 2≤sizeLine;decide),fun r nr=>?_⟩
      have s4:=upd_free (o:=.tup [V.int s1.due,V.int (k:Int)]) nr
      have qa4:=qa3.same s4
      have hr:upd H3 r (.tup [V.int s1.due,V.int (k:Int)]) r=some (.tup (pV (due k,k))):=by rw [upd_same,e2];rfl
      have tl:=tp.len
      refine ⟨l,_,_,rfl,rfl,s4 _ _ hl,small1000 (by rw [refs_len];rw [List.length_map] at tl;have:=qOf_len due rd T ((go.take i).filter hw) (rd k);have l2:=List.length_filter_le hw (go.take i);rw [List.length_take] at l2;have tl':ts.length=(qOf due rd T ((go.take i).filter hw) (rd k)).length:=tl;omega),?_⟩
      refine ⟨E,_,_,_,rfl,upd_other nl (sm3.trans s4),?_,?_,by omega⟩
      ·rw [tk,qOf_yes hd]
       exact qa4.add he (s4 _ _ hl) (tp.same s4) hr (noneS sm3 nr)
      ·intro r'
       rw [tk,qOf_yes hd,mem r']
       dsimp only
       by_cases z:r'=rd k
       ·subst z
        rw [if_pos rfl]
        exact ⟨fun _=>by simp,fun _=>(mem _).mp hin⟩
       ·rw [if_neg z]
     ·have hin:rd k∉E.map (·.1):=fun z=>by
       obtain ⟨⟨r0,l⟩,he,e0⟩:=List.mem_map.mp z
       have e0:r0=rd k:=e0
       subst e0
       rw [valE_mem qa3.nk he] at h0
       cases h0
      have q0:qOf due rd T ((go.take i).filter hw) (rd k)=[]:=by
       by_cases z:qOf due rd T ((go.take i).filter hw) (rd k)=[]
       ·exact z
       ·exact absurd ((mem _).mpr z) hin
      have qn:=qa3.new hin q0 npzH hz nE
      have smn:Same H (upd H3 p (.dK (putK (enE E) (Sum.inl (rd k:Int)) (.ref pz)))):=upd_other hp sm3
      have np:pz≠p:=fun z=>by rw [z,qa3.tab] at hz;cases hz
      have hzn:upd H3 p (.dK (putK (enE E) (Sum.inl (rd k:Int)) (.ref pz))) pz=some (.lst (refs [])):=by rw [upd_ne np];exact hz
      generalize upd H3 p (.dK (putK (enE E) (Sum.inl (rd k:Int)) (.ref pz)))=H4 at qn smn hzn ⊢
      have he:(rd k,pz)∈E++[(rd k,pz)]:=List.mem_append.mpr (.inr (.head _))
      refine ⟨.inl ⟨rfl,_,SqL.of hzn⟩,_,rfl,_,rfl,(by show 2≤sizeLine;decide),fun r nr=>?_⟩
      have s4:=upd_free (o:=.tup [V.int s1.due,V.int (k:Int)]) nr
      have qa4:=qn.same s4
      have hr:upd H4 r (.tup [V.int s1.due,V.int (k:Int)]) r=some (.tup (pV (due k,k))):=by rw [upd_same,e2];rfl
      refine ⟨pz,_,_,rfl,rfl,s4 _ _ hzn,(by show 0 < sizeLine;decide),?_⟩
      refine ⟨E++[(rd k,pz)],_,_,_,rfl,upd_other npzH (smn.trans s4),?_,?_,by rw [List.length_append];show E.length+1≤i+1;omega⟩
      ·rw [tk,qOf_yes hd]
       exact qa4.add (ts:=[]) he (s4 _ _ hzn) (by rw [q0];exact .nil) hr (noneS smn nr)
      ·intro r'
       rw [tk,qOf_yes hd,List.map_append,List.mem_append,mem r']
       dsimp only
       by_cases z:r'=rd k
       ·subst z
        rw [if_pos rfl]
        exact ⟨fun _=>by simp,fun _=>.inr (.head _)⟩
       ·rw [if_neg z]
        exact ⟨fun y=>y.elim id fun y=>absurd (List.mem_singleton.mp y) z,.inl⟩
    ·refine iteN (decide_eq_false (by rw [e2];exact hd)) ?_
     exact ⟨E,_,_,v3,rfl,sm,by rw [tk,qOf_no hd];exact qa,by rw [tk,qOf_no hd];exact mem,by omega⟩
   ·have tk:(go.take (i+1)).filter hw=(go.take i).filter hw:=by
     rw [tk,List.filter_append,List.filter_cons,if_neg (by rw [hwk];decide),List.filter_nil,List.append_nil]
    refine ⟨_,rfl,x,dx,_,rfl,sm _ _ hx,rfl,_,rfl,x,n,g,st,gs,ls,sss,k,ss,s1,rfl,Wc,e1,?_⟩
    refine ⟨_,rfl,_,rfl,_,_,rfl,rfl,_,rfl,?_⟩
    by_cases hd:due k≤T
    ·refine iteB (decide_eq_true (by rw [e2];exact hd)) ?_
     refine ⟨_,rfl,y,dy,_,rfl,sm _ _ hy,rfl,_,rfl,x,dx,_,rfl,sm _ _ hx,rfl,_,rfl,x,n,g,st,gs,ls,sss,k,ss,s1,rfl,Wc,e1,_,rfl,x,dx,_,rfl,sm _ _ hx,rfl,_,rfl,x,n,g,st,gs,ls,sss,k,y1,rfl,Wc,e3,?_⟩
     refine ⟨y,n',t,a',b',hs,_,kvs,s1.house,y1,rfl,Wy.same sm,G,th_nmS G e4,th_nmS G e5,fun _ H2 s2=>?_,fun z=>absurd (unlikeS e4 e5 e6) (by rw [z];decide)⟩
     rw [e7]
     refine ⟨_,rfl,rfl,_,rfl,iteN (by simp) ?_⟩
     exact ⟨E,_,_,_,rfl,sm.trans s2,by rw [tk];exact qa.same s2,by rw [tk];exact mem,by omega⟩
    ·refine iteN (decide_eq_false (by rw [e2];exact hd)) ?_
     exact ⟨E,_,_,v3,rfl,sm,by rw [tk];exact qa,by rw [tk];exact mem,by omega⟩
  ·rintro σ Hc ⟨E,v1,v2,v3,rfl,sm,qa,mem,le⟩
   unfold natV at qa mem
   rw [List.length_map,List.take_length] at qa mem
   exact ⟨_,rfl,q p Hc E hp sm qa mem⟩
end
end K1
namespace L3
open PySem PySem.Spec PyProof.Rows L2
section
variable {X:Cx}
theorem call_sortedIS:CallR X (.builtin "sorted") (fun xs H Q=>∃(p:Addr) (ns:List Int),xs=[.ref p]∧SqL X.K H p (ns.map V.int)∧ns.length < 64∧∀l,H l=none→Q (.ref l) (upd H l (.lst ((sortI ns).map V.int)))):=by
 intro pins s σ H xs us Q I r h
 obtain ⟨p,ns,rfl,hq,l64,q⟩:=h
 obtain ⟨u,rfl,ru⟩:=vals1 r
 cases ru
 obtain ⟨its,rv,pl,hz⟩:=I.list hq
 have hlen:=rv.length
 rw [List.length_map] at hlen
 refine sorted_at (κ:=oneType') (lt:=ltI ns) pl.isList (by omega) (fun h2 s1 x Q' hQ=>ints_kind rv h2 hQ) (fun h2 s1 x i j C hi hj hC=>ints_ask rv hi hj hC) fun D h' c hle x hc=>?_
 refine ⟨.ref D,_,I.laid (a:=D) (o:=.lst ((sortI ns).map V.int)) (t':=s.toks) (fun b o q=>x b o q) hle ?_,rfl,q D (I.hok.fresh hle)⟩
 rw [←sortI_V]
 refine ⟨?_,_,c,srtL_vals rv,hc⟩
 rw [srtL_len]
 exact hz
theorem call_sortedKIS (hc:X.calm=true):CallR X (.builtin "sorted") (fun xs H Q=>∃(p:Addr) (kvs:List (Key × V)) (ns:List Int),xs=[.ref p]∧H p=some (.dK kvs)∧kvs.map (·.1)=ns.map Sum.inl∧ns.length < 64∧∀l,H l=none→Q (.ref l) (upd H l (.lst ((sortI ns).map V.int)))):=by
 intro pins s σ H xs us Q I r h
 obtain ⟨p,kvs,ns,rfl,hp,ek,l64,q⟩:=h
 obtain ⟨u,rfl,ru⟩:=vals1 r
 cases ru
 have hh:X.A.handled=none:=I.ok.hd hc
 obtain ⟨zl,lo,ys,rel,o,es,ep,ho,hx,hd,_,hp2,hn⟩:=dk_of I.hok hp
 have rv:Vals (ns.map V.int) (es.toList.map (·.key)):=by
  have gen:∀{kvs:List (Key × V)} {ys:List (Key × Value)} {el:List DictEntry} {ns:List Int},KV kvs ys→Pairs (mixKind X.prog X.w) el ys→kvs.map (·.1)=ns.map Sum.inl→Vals (ns.map V.int) (el.map (·.key)):=by
   intro kvs ys el ns rel pr
   induction pr generalizing kvs ns with
   | nil=>
    intro e
    cases rel
    cases ns with
    | nil=>exact .nil
    | cons _ _=>cases e
   | cons h1 h2 t ih=>
    intro e
    cases rel with
    | cons a b=>
     cases ns with
     | nil=>cases e
     | cons n ns=>
      rw [List.map_cons,List.map_cons,List.cons.injEq] at e
      refine .cons ?_ (ih b e.2)
      rw [←a.1,e.1] at h1
      exact mix_int h1
  exact gen rel hp2 ek
 have hl:=rv.length
 rw [List.length_map] at hl
 have kl:kvs.length=ns.length:=by have:=congrArg List.length ek;simpa using this
 refine sorted_src (κ:=oneType') (lt:=ltI ns) lo hh ⟨o,ho,hx,hd⟩ rfl (by omega) (fun h2 s1 x Q' hQ=>ints_kind rv h2 hQ) (fun h2 s1 x i j C hi hj hC=>ints_ask rv hi hj hC) fun h1 D h' t c x1 hle x hc=>?_
 have I1:Inv X pins σ H {s with heap:=h1,toks:=t}:=I.kept (t':=t) fun b o e=>x1 b o e
 refine ⟨.ref D,_,I1.laid (a:=D) (o:=.lst ((sortI ns).map V.int)) (t':=t) (fun b o q=>x b o q) hle ?_,rfl,q D (I1.hok.fresh hle)⟩
 rw [←sortI_V]
 refine ⟨?_,_,c,srtL_vals rv,hc⟩
 rw [srtL_len,List.length_map]
 omega
end
end L3
namespace K1
open PySem L2 L3 M1
theorem tlc_unp {K:PySem.W.Frag} {wi:TI} {cs:List (Option Nat)} {te:TE} {σ rest:L2.St} {H:Hp} {Q:VK} {ds:List (List L2.V)} (hw:∀R:It→Hp→Prop,(∀p H1 ts,H p=none→Same H H1→H1 p=some (.lst (refs ts))→Tups H1 ts ds→R (Itl K p) H1)→wi σ H R) (hcs:caps cs σ=none::none::rest) (hl:ds.length < sizeLine) (f:Nat→L2.V)
  (two:∀d∈ds,∃u v,d=[u,v]) (elt:∀(i:Nat) (u v:L2.V) (H2:Hp) (R:VK),ds[i]?=some [u,v]→Same H H2→(∀H5,Same H2 H5→R (f i) H5)→te (some u::some v::rest) H2 R)
  (fin:∀(D:Addr) (H':Hp),H D=none→H' D=some (.lst ((List.range ds.length).map f))→Same H H'→Q (.ref D) H'):tLC wi cs (gTup K 2 (gCons (gName 0) (gCons (gName 1) gNil))) tAll te σ H Q:=by
 refine hw _ fun p H1 ts np s1 hp tp D hD=>?_
 have ln:=tp.len
 refine ⟨fun i m ys σ' H'=>m=ds.length - i∧i≤ds.length∧ys=(List.range i).map f∧(∃o1 o2,σ'=o1::o2::rest)∧Same H1 H'∧H' D=some (.lst ys),⟨ds.length,by simp,Nat.zero_le _,rfl,⟨none,none,by rw [hcs]⟩,fun b o e=>?_,upd_same⟩,?_⟩
 ·rw [upd_ne (ne_of_none e hD)]
  exact e
 ·rintro i m ys σ' H' ⟨rfl,hi,rfl,⟨o1,o2,rfl⟩,sm,hHD⟩
  obtain ⟨w1,w2,w3⟩:=wk_list (SqL.of (K:=K) hp) H' sm
  refine ⟨hHD,Nat.lt_of_le_of_lt (by rw [List.length_map,List.length_range];omega) hl,?_⟩
  rw [refs_len] at w1 w2 w3
  by_cases hlt:i < ds.length
  ·refine .inr ⟨w2 i (by omega),fun x H2 y=>?_⟩
   obtain ⟨rfl,ex⟩:=w3 i x H2 (by omega) y
   unfold refs at ex
   rw [List.getElem?_map] at ex
   obtain ⟨t,et,rfl⟩:=Option.map_eq_some_iff.mp ex
   obtain ⟨d,ed,hd⟩:=Paired.get tp et
   have hd:=sm _ _ hd
   obtain ⟨u,v,rfl⟩:=two d (List.mem_of_getElem? ed)
   refine ⟨t,_,rfl,SqT.of hd,rfl,_,_,rfl,_,_,rfl,rfl,?_⟩
   show te (some u::some v::rest) H2 _
   refine elt i u v H2 _ ed (s1.trans sm) fun H5 s5=>⟨s5 _ _ hHD,ds.length - (i+1),by omega,rfl,hlt,?_,⟨_,_,rfl⟩,fun b ob e=>?_,upd_same⟩
   ·rw [List.range_succ,List.map_append]
    rfl
   ·rw [upd_ne (ne_of_none e hD)]
    exact s5 _ _ (sm _ _ e)
  ·have e:i=ds.length:=by omega
   subst e
   rw [ln] at w1
   exact .inl ⟨w1,fin D H' (noneS s1 hD) hHD (s1.trans sm)⟩
theorem to_nx {i:Nat} {v:L2.V} {σ:L2.St} {H:Hp} {Q:L2.St→Hp→Prop} (h:Q (σ.set i (some v)) H):gName i v σ H Q:=h
theorem BagAt.upd {H:Hp} {a l:Addr} {b:Kt × List Nat} {xs ys:List L2.V} (h:BagAt H a b) (hl:H l=some (.lst xs)):BagAt (L2.upd H l (.lst ys)) a b:=by
 obtain ⟨c,h1,h2⟩:=h
 exact ⟨c,by rw [upd_ne fun z=>by rw [z,hl] at h1;cases h1];exact h1,by rw [upd_ne fun z=>by rw [z,hl] at h2;cases h2];exact h2⟩
theorem cut_room (ts:List Addr) {m:Int} (h:0≤m):cutV (refs ts) none (some m)=refs (ts.take m.toNat):=by
 obtain ⟨k,rfl⟩:∃k:Nat,m=(k:Int):=⟨m.toNat,by omega⟩
 unfold cutV
 have f1:HT.sIx (refs ts).length 0 none=0:=rfl
 have f2:HT.sIx (refs ts).length (refs ts).length (some (k:Int))=min k (refs ts).length:=HT.sIx_nat (refs ts).length (refs ts).length k
 rw [f1,f2,Nat.sub_zero,List.drop_zero,Int.toNat_natCast]
 unfold refs
 rw [List.length_map,List.map_take]
 by_cases z:k≤ts.length
 ·rw [Nat.min_eq_left z]
 ·rw [Nat.min_eq_right (by omega),List.take_of_length_le (by rw [List.length_map];exact Nat.le_refl _),List.take_of_length_le (by rw [List.length_map];omega)]
theorem tups_take {H:Hp}:∀{ts:List Addr} {ds:List (List L2.V)} (k:Nat),Tups H ts ds→Tups H (ts.take k) (ds.take k)
 | _,_,0,_=>by rw [List.take_zero,List.take_zero];exact .nil
 | _,_,k+1,.nil=>.nil
 | _,_,k+1,.cons a t=>.cons a (tups_take k t)
noncomputable def bagOf (ds:List M1.Rd) (due:Nat→Int) (rd:Nat→Nat) (T:Int) (go:List Nat) (r:Nat):Kt × List Nat:=((T,r),bagN (rRm ds r) (qOf due rd T go r))
theorem qOf_snd (due:Nat→Int) (rd:Nat→Nat) (T:Int) (go:List Nat) (r:Nat):(qOf due rd T go r).map (·.2)=go.filter fun n=>decide (due n≤T) && decide (rd n=r):=by
 unfold qOf
 rw [List.map_map]
 exact List.map_id' _
theorem qOf_nd {due:Nat→Int} {rd:Nat→Nat} {T:Int} {go:List Nat} {r:Nat} (nd:go.Nodup):(qOf due rd T go r).Nodup:=by
 have h:((qOf due rd T go r).map (·.2)).Nodup:=by rw [qOf_snd];exact nd.filter _
 exact (List.pairwise_map.mp h).imp fun h z=>h (by rw [z])
theorem pick_nd {due:Nat→Int} {rd:Nat→Nat} {T:Int} {go:List Nat} {r:Nat} (nd:go.Nodup) (k:Nat):(((pairsS (qOf due rd T go r)).take k).map (·.2)).Nodup:=by
 have h:((pairsS (qOf due rd T go r)).map (·.2)).Nodup:=by
  refine (((pairsS_perm _).map _).nodup_iff).mpr ?_
  rw [qOf_snd]
  exact nd.filter _
 rw [List.map_take]
 exact h.sublist (List.take_sublist _ _)
theorem natV_I (ns:List Nat):natV ns=(natI ns).map V.int:=by
 unfold natV natI
 rw [List.map_map]
 rfl
noncomputable def spBaF (K:PySem.W.Frag) (C CW CN:Addr):Sp:=fun vs H Q _=>∃(x n g st gl y t a' b':Addr) (gs:List Str) (ls rs:List Addr) (sss:List (List Step)) (hs:List (List Nat)) (ds:List M1.Rd) (kvs:DTs) (gz:List Nat) (hw:Nat→Bool) (go:List Nat) (due:Nat→Int) (rd:Nat→Nat) (T:Int),vs=[.ref n,.ref x,.ref gl,.ref y,.int T]∧go=gz.filter hw∧
 WalkAt C H x n g st gs ls sss∧SqL K H gl (natV gz)∧WaysAt CW CN H y n t a' b' (txs hs) (refs rs) kvs∧RoadsAt H hs rs ds∧Good hs∧gz.length≤60∧gz.Nodup∧(∀k∈gz,OnOrNot hw hs kvs gs sss due rd k)∧(∀k∈go,rd k < ds.length)∧
 ∀(l:Addr) (H':Hp) (as:List Addr) (rl:List Nat),H l=none→Same H H'→H' l=some (.lst (refs as))→Paired (BagAt H') as (rl.map (bagOf ds due rd T go))→rl.Pairwise (· < ·)→(∀r,r∈rl↔qOf due rd T go r≠[])→Q (.ref l) H'
section
variable {P:Program} {w:World} {K:PySem.W.Frag} {mg:Str→Option Value} {base:Heap}
noncomputable abbrev sBa:Stmt:=top 23
theorem scBa:FnScope ["net","walk","going","ways","turn","queues","bags","road","room","chosen"] ["net","walk","going","ways","turn"] (defScope sBa):=⟨rfl,rfl,rfl,by decide+kernel,rfl,by decide+kernel,by decide+kernel⟩
theorem ok_baF {C CW CN f f1 f2:Addr} {fd fd1 fd2:FuncData} (F:Fun K "bags_at" "bags_at" sBa f fd) (B:Blt mg) (Cl_Net:Cls K CN)
  (D_queues_at:Dn K mg "queues_at" sQs ["walk","going","ways","turn"] f1 fd1) (G_queues_at:FnOk P w K mg base CX0 4 f1 fd1 ["walk","going","ways","turn"] (spQs K C CW CN))
  (M_Net_road:Mn K CN "road" "Net.road" sRoadM ["self","number"] f2 fd2) (G_Net_road:FnOk P w K mg base CX0 1 f2 fd2 ["self","number"] (spRoad0 CN)):
  FnOk P w K mg base CX0 5 f fd ["net","walk","going","ways","turn"] (spBaF K C CW CN):=by
 refine F.ok scBa (fun vs H Q E h=>?_) (fun cdv A outer s H vs Q E hr h=>?_)
 ·obtain ⟨x,n,g,st,gl,y,t,a',b',gs,ls,rs,sss,hs,ds,kvs,gz,hw,go,due,rd,T,rfl,_⟩:=h
  rfl
 ·obtain ⟨x,n,g,st,gl,y,t,a',b',gs,ls,rs,sss,hs,ds,kvs,gz,hw,go,due,rd,T,rfl,ego,W,hgo,Wy,R,G,fewz,ndz,ok,rlt,q⟩:=h
  have few:go.length≤60:=by rw [ego];exact Nat.le_trans (List.length_filter_le _ _) fewz
  have ndg:go.Nodup:=by rw [ego];exact ndz.filter _
  obtain ⟨dn,hn⟩:=Wy.net.ins
  refine ⟨_,(pss_cons (ps_set (i:=5) scBa.nd rfl (Or.inl rfl) (pe_call G_queues_at (hr.mono (by decide)) (by rfl) D_queues_at.at_ D_queues_at.fn.kp D_queues_at.bd .nil pass0 (pa_cons (pv 1) (pa_cons (pv 2) (pa_cons (pv 3) (pa_cons (pv 4) pa_nil))))))
   (pss_cons (ps_set (i:=6) scBa.nd rfl (Or.inl rfl) (pe_lst pa_nil))
   (pss_cons (ps_for PassesOwn.never rfl (pi_list (pe_callB (call_sortedKIS rfl) (by rfl) B.sorted bt_sorted (pa_cons (pv 5) pa_nil))) (pg_name (i:=7) scBa.nd rfl (Or.inl rfl))
    (pss_cons (ps_set (i:=8) scBa.nd rfl (Or.inl rfl) (pe_ix ix_tup (pe_meth (pv 0) Cl_Net M_Net_road.me G_Net_road (hr.mono (by decide)) M_Net_road.bd .nil pass0 (pa_cons (pv 7) pa_nil)) pe_int (fun _ _=>rfl)))
   (pss_cons (ps_setLC (i:=9) scBa.nd rfl rfl rfl (N':=["came","number"]) (cs:=[none,none]) rfl (pi_list (pe_slice sl_list (pe_callB call_sortedT (by rfl) B.sorted bt_sorted (pa_cons (pe_dget (hu_of hr) (pv 5) (pv 7) (fun _ _=>rfl)) pa_nil)) po_none (po_some (pv 8)))) rfl (by decide+kernel) rfl (by decide+kernel) (sub_of (fun p hp=>absurd hp (List.not_mem_nil))) rfl
    (.own (.own .nil))
    (fun C s3 H3 fp pn=>⟨(pg_tupK (K:=K) (n:=2) rfl rfl (pgs_cons (pg_name (i:=0) (by show (["came","number"]:List Str).Nodup;decide+kernel) rfl (.inl rfl)) (pgs_cons (pg_name (i:=1) (by show (["came","number"]:List Str).Nodup;decide+kernel) rfl (.inl rfl)) pgs_nil))),pif_nil,(pv 1)⟩))
   (pss_one (ps_expr (pe_bm PySem.F.plainAttrs_list PySem.F.slot_list_append PySem.F.type_list_append mt_append (pv 6) (pa_cons (pe_tup (pa_cons (pv 4) (pa_cons (pv 7) (pa_cons (pe_callTy call_tuple_of (by rfl) B.tuple bt_tuple (pa_cons (pe_callB call_sortedIS (by rfl) B.sorted bt_sorted (pa_cons (pv 9) pa_nil)) pa_nil)) pa_nil)))) pa_nil)))))))
   (pss_one (ps_ret (pv 6)))))),?_⟩
  refine ⟨_,rfl,_,rfl,_,rfl,_,rfl,x,n,g,st,gl,y,n,t,a',b',gs,ls,sss,hs,_,kvs,gz,hw,due,rd,T,rfl,W,hgo,Wy,G,(by omega),ok,fun p H1 E np s1 qa mem=>?_⟩
  rw [←ego] at qa mem
  refine ⟨Nat.zero_le _,fun bl nbl=>?_⟩
  have s2:=upd_free (o:=.lst []) nbl
  have hbl2:upd H1 bl (.lst []) bl=some (.lst []):=upd_same
  generalize upd H1 bl (.lst [])=H2 at s2 hbl2 ⊢
  obtain ⟨ks,eks⟩:∃ks,ks=E.map (·.1):=⟨_,rfl⟩
  have ndk:ks.Nodup:=by rw [eks];exact qa.nk
  have ek:(enE E).map (·.1)=(natI ks).map Sum.inl:=by
   rw [eks]
   unfold enE natI
   rw [List.map_map,List.map_map,List.map_map]
   rfl
  have kl0:ks.length≤go.length:=by
   have h2:=nodup_len (sn:=ks) (L:=go.map rd) ndk fun r hr=>by
    rw [eks] at hr
    obtain ⟨c,hc⟩:=List.exists_mem_of_ne_nil _ ((mem r).mp hr)
    unfold qOf at hc
    obtain ⟨k,hk,_⟩:=List.mem_map.mp hc
    obtain ⟨h3,h4⟩:=List.mem_filter.mp hk
    simp only [Bool.and_eq_true,decide_eq_true_eq] at h4
    exact List.mem_map.mpr ⟨k,h3,h4.2⟩
   rwa [List.length_map] at h2
  refine ⟨_,rfl,p,enE E,natI ks,rfl,s2 _ _ qa.tab,ek,(by unfold natI;rw [List.length_map];omega),fun sl nsl=>⟨sl,rfl,⟨_,SqL.of upd_same⟩,?_⟩⟩
  rw [←sortN_I,←natV_I]
  have s3:=upd_free (o:=.lst (natV (sortN ks))) nsl
  have hsl3:upd H2 sl (.lst (natV (sortN ks))) sl=some (.lst (natV (sortN ks))):=upd_same
  have hbl3:=s3 _ _ hbl2
  have sbl:sl≠bl:=Ne.symm (ne_of hbl2 nsl)
  generalize upd H2 sl (.lst (natV (sortN ks)))=H3 at s3 hsl3 hbl3 ⊢
  obtain ⟨rl,erl⟩:∃rl,rl=sortN ks:=⟨_,rfl⟩
  rw [←erl] at hsl3
  have memr:∀r,r∈rl↔qOf due rd T go r≠[]:=fun r=>by
   rw [erl,(sortN_perm ks).mem_iff,eks]
   exact mem r
  have kl:rl.length≤100:=by
   rw [erl,(sortN_perm ks).length_eq]
   omega
  refine for_list (xs:=natV (sortN ks)) (fun j σ Hc=>∃(as:List Addr) (v1 v2 v3:Option L2.V),σ=[some (.ref n),some (.ref x),some (.ref gl),some (.ref y),some (.int T),some (.ref p),some (.ref bl),v1,v2,v3]∧Same H1 Hc∧Hc sl=some (.lst (natV rl))∧Hc bl=some (.lst (refs as))∧Paired (BagAt Hc) as ((rl.take j).map (bagOf ds due rd T go)))
   ⟨[],none,none,none,rfl,s2.trans s3,hsl3,hbl3,.nil⟩ (fun i σ Hc _ ⟨_,_,_,_,_,_,h,_⟩=>by rw [←erl];exact SqL.of h) ?_ ?_
  ·rintro j z σ Hc ez ⟨as,v1,v2,v3,rfl,sm,hslc,hblc,bags⟩
   rw [←erl] at ez
   unfold natV at ez
   rw [List.getElem?_map] at ez
   obtain ⟨r,er,rfl⟩:=Option.map_eq_some_iff.mp ez
   have hrm:=List.mem_of_getElem? er
   obtain ⟨c0,hc0⟩:=List.exists_mem_of_ne_nil _ ((memr r).mp hrm)
   have rlt':r < ds.length:=by
    unfold qOf at hc0
    obtain ⟨k,hk,_⟩:=List.mem_map.mp hc0
    obtain ⟨h3,h4⟩:=List.mem_filter.mp hk
    simp only [Bool.and_eq_true,decide_eq_true_eq] at h4
    rw [←h4.2]
    exact rlt k h3
   have s1c:=s1.trans sm
   have Rc:=R.same s1c
   have rl2:=R.len
   obtain ⟨ra,era⟩:∃ra,rs[r]?=some ra:=⟨_,List.getElem?_eq_getElem (by omega)⟩
   obtain ⟨d,ed,okd,hd⟩:=Rc.get era
   have e0:ds.getD r rd0=d:=gd_of ed
   refine ⟨_,rfl,n,dn,_,rfl,s1c _ _ hn,rfl,_,rfl,n,a',b',_,_,_,_,rfl,Wy.net.same s1c,(by omega),(by have:=refs_len rs;omega),(atI_nat (by unfold refs;rw [List.getElem?_map,era];rfl)),ra,_,_,_,rfl,rfl,SqT.of hd,rfl,?_⟩
   have em:(d.m:Int)=rRm ds r:=by unfold rRm;rw [e0]
   have m0:0≤rRm ds r:=by rw [←em];have:=okd.m.1;omega
   obtain ⟨cs,ecs⟩:∃cs,cs=qOf due rd T go r:=⟨_,rfl⟩
   have ndc:cs.Nodup:=by rw [ecs];exact qOf_nd ndg
   have lcs:cs.length≤60:=by rw [ecs];have:=qOf_len due rd T go r;omega
   have hrE:r∈E.map (·.1):=(mem r).mpr ((memr r).mp hrm)
   obtain ⟨⟨r0,la⟩,he,e1⟩:=List.mem_map.mp hrE
   have e1:r0=r:=e1
   subst e1
   obtain ⟨_,_,ts,hla,tpla⟩:=(qa.same sm).each _ he
   have tpla:Tups Hc ts (cs.map pV):=by rw [ecs];exact tpla
   have hpc:=(qa.same sm).tab
   have gq:=DGet.k (k:=Sum.inl (r0:Int)) hpc
   rw [valE_mem qa.nk he] at gq
   have tll:=tpla.len
   rw [List.length_map] at tll
   obtain ⟨k,ek2⟩:∃k,k=(rRm ds r0).toNat:=⟨_,rfl⟩
   obtain ⟨ch,ech⟩:∃ch,ch=((pairsS cs).take k).map (·.2):=⟨_,rfl⟩
   have ndch:ch.Nodup:=by rw [ech,ecs];exact pick_nd ndg k
   have lp:((pairsS cs).take k).length≤60:=by
    rw [List.length_take]
    have:=(pairsS_perm cs).length_eq
    omega
   refine to_nx ?_
   dsimp only
   refine seq_asg ?_
   refine tlc_unp (K:=K) (rest:=[]) (ds:=((pairsS cs).take k).map pV) (fun R' hR'=>?_) rfl (small1000 (by rw [List.length_map];omega)) (fun i=>V.int ((((pairsS cs).take k).getD i (0,0)).2:Int)) (fun d' hd'=>?_) (fun i u v H5 R' ei s5 kk=>?_) (fun D H5 nD hD s5=>?_)
   ·refine ⟨_,rfl,_,rfl,p,_,rfl,gq,la,ts,cs.map pK,true,[true],rfl,SqL.of hla,pairs_keys tpla,(by omega),pK_shape cs,fun l1 nl1=>?_⟩
    obtain ⟨ts1,ets,tp1⟩:=pairs_srt tpla
    have s4:=upd_free (o:=.lst (srtL V.non (ltK (cs.map pK)) (ts.map V.ref))) nl1
    have hl1:upd Hc l1 (.lst (srtL V.non (ltK (cs.map pK)) (ts.map V.ref))) l1=some (.lst (refs ts1)):=by rw [upd_same];rw [show ts.map V.ref=refs ts from rfl,ets]
    refine ⟨_,rfl,_,rfl,l1,_,rfl,SqL.of hl1,fun l2 nl2=>⟨l2,rfl,⟨_,SqL.of upd_same⟩,?_⟩⟩
    rw [em,cut_room ts1 m0,←ek2]
    refine hR' l2 _ (ts1.take k) (noneS s4 nl2) (s4.trans (upd_free nl2)) upd_same ?_
    rw [List.map_take]
    exact (tups_take k (tp1.same s4)).same (upd_free nl2)
   ·obtain ⟨c,_,rfl⟩:=List.mem_map.mp hd'
    exact ⟨_,_,rfl⟩
   ·rw [List.getElem?_map] at ei
    obtain ⟨c,ec,e2⟩:=Option.map_eq_some_iff.mp ei
    have e3:V.int (c.2:Int)=v:=by
     unfold pV at e2
     simp only [List.cons.injEq] at e2
     exact e2.2.1
    refine ⟨_,rfl,?_⟩
    rw [←e3]
    have:=kk H5 (Same.refl _)
    rw [gd_of ec] at this
    exact this
   have eD:(List.range (((pairsS cs).take k).map pV).length).map (fun i=>V.int ((((pairsS cs).take k).getD i (0,0)).2:Int))=natV ch:=by
    rw [List.length_map,range_getD (fun c:Int × Nat=>V.int (c.2:Int)) (0,0) ((pairsS cs).take k),ech]
    unfold natV
    rw [List.map_map]
    rfl
   rw [eD,natV_I] at hD
   have hbl5:=s5 _ _ hblc
   have las:=Paired.length bags
   rw [List.length_map,List.length_take] at las
   refine ⟨_,rfl,.inl ⟨rfl,_,SqL.of hbl5⟩,_,rfl,_,rfl,_,rfl,D,natI ch,rfl,SqL.of hD,(by unfold natI;rw [List.length_map,ech,List.length_map];omega),fun l3 nl3=>⟨l3,_,rfl,.inl ⟨SqL.of upd_same,fun c nc=>⟨(by show 3≤sizeLine;decide),fun bt nbt=>⟨bl,refs as,_,rfl,rfl,upd_free nbt _ _ (upd_free nc _ _ (upd_free nl3 _ _ hbl5)),small1000 (by rw [refs_len];omega),?_⟩⟩⟩⟩⟩
   rw [←sortN_I,←natV_I]
   have s6:=upd_free (o:=.lst (natV (sortN ch))) nl3
   have h6:∀b o,H5 b=some o→upd H5 l3 (.lst (natV (sortN ch))) b=some o:=s6
   rw [←sortN_I,←natV_I] at nc nbt
   generalize upd H5 l3 (.lst (natV (sortN ch)))=H6 at s6 nc nbt ⊢
   have s7:=upd_free (o:=.tup (natV (sortN ch))) nc
   have hc7:upd H6 c (.tup (natV (sortN ch))) c=some (.tup (natV (sortN ch))):=upd_same
   generalize upd H6 c (.tup (natV (sortN ch)))=H7 at s7 hc7 nbt ⊢
   have s8:=upd_free (o:=.tup [V.int T,V.int (r0:Int),V.ref c]) nbt
   have hbt8:upd H7 bt (.tup [V.int T,V.int (r0:Int),V.ref c]) bt=some (.tup [V.int T,V.int (r0:Int),V.ref c]):=upd_same
   have hc8:=s8 _ _ hc7
   generalize upd H7 bt (.tup [V.int T,V.int (r0:Int),V.ref c])=H8 at s8 hbt8 hc8 ⊢
   have s58:=s6.trans (s7.trans s8)
   have hbl8:=s58 _ _ hbl5
   have nb:BagAt H8 bt (bagOf ds due rd T go r0):=by
    refine ⟨c,hbt8,?_⟩
    have e9:(bagOf ds due rd T go r0).2=sortN ch:=by
     unfold bagOf bagN
     rw [←ecs,←ek2,←ech]
    rw [e9]
    exact hc8
   refine ⟨as++[bt],_,_,_,rfl,upd_other nbl (sm.trans (s5.trans s58)),by rw [upd_ne sbl];exact s58 _ _ (s5 _ _ hslc),by rw [upd_same,refs_snoc],?_⟩
   rw [show rl.take (j+1)=rl.take j++[r0] by rw [List.take_add_one,er];rfl,List.map_append]
   refine Paired.snoc (nb.upd hbl8) (Paired.mapP bags fun a b h=>((h.same s5).same s58).upd hbl8)
  ·rintro σ Hc ⟨as,v1,v2,v3,rfl,sm,hslc,hblc,bags⟩
   rw [←erl] at bags
   unfold natV at bags
   rw [List.length_map,List.take_length] at bags
   exact ⟨_,rfl,q bl Hc as rl (noneS s1 nbl) (s1.trans sm) hblc bags (by rw [erl];exact sortN_up ndk) memr⟩
end
open PySem L2 L3 M1
noncomputable def s00:Step:=⟨0,none,Str.empty,0⟩
noncomputable def lastS (ss:List Step):Step:=ss.getLastD s00
noncomputable def lastAt (sss:List (List Step)) (n:Nat):Step:=lastS (sss.getD n [])
noncomputable def dueN (sss:List (List Step)) (n:Nat):Int:=(lastAt sss n).due
noncomputable def gN (gs:List Str) (n:Nat):Str:=gs.getD n Str.empty
noncomputable def rdN (kvs:DTs) (gs:List Str) (sss:List (List Step)) (n:Nat):Nat:=(wayOf kvs (lastAt sss n).house (gN gs n)).getD 0
theorem last_split {ss:List Step} (h:ss≠[]):∃i,ss=i++[lastS ss]:=by
 refine ⟨ss.dropLast,?_⟩
 unfold lastS
 rw [List.getLastD_eq_getLast?,List.getLast?_eq_getLast h]
 exact (List.dropLast_concat_getLast h).symm
theorem gd_some {α:Type} {l:List α} {i:Nat} {d:α} (h:i < l.length):l[i]?=some (l.getD i d):=by
 rw [List.getD,List.getElem?_eq_getElem h]
 rfl
noncomputable def roadsAt (m:Nat) (due:Nat→Int) (rd:Nat→Nat) (T:Int) (go:List Nat):List Nat:=(List.range m).filter fun r=>!(qOf due rd T go r).isEmpty
noncomputable def bagsN (ds:List M1.Rd) (due:Nat→Int) (rd:Nat→Nat) (T:Int) (go:List Nat):List (Kt × List Nat):=(roadsAt ds.length due rd T go).map (bagOf ds due rd T go)
theorem roads_eq {m:Nat} {due:Nat→Int} {rd:Nat→Nat} {T:Int} {go:List Nat} (hlt:∀k∈go,rd k < m) {rl:List Nat} (up:rl.Pairwise (· < ·)) (mem:∀r,r∈rl↔qOf due rd T go r≠[]):rl=roadsAt m due rd T go:=by
 have up2:(roadsAt m due rd T go).Pairwise (· < ·):=List.pairwise_lt_range.filter _
 have mem2:∀r,r∈roadsAt m due rd T go↔qOf due rd T go r≠[]:=fun r=>by
  unfold roadsAt
  rw [List.mem_filter]
  constructor
  ·rintro ⟨_,h⟩ e
   rw [e] at h
   cases h
  ·intro h
   obtain ⟨c,hc⟩:=List.exists_mem_of_ne_nil _ h
   refine ⟨List.mem_range.mpr ?_,?_⟩
   ·unfold qOf at hc
    obtain ⟨k,hk,_⟩:=List.mem_map.mp hc
    obtain ⟨h3,h4⟩:=List.mem_filter.mp hk
    simp only [Bool.and_eq_true,decide_eq_true_eq] at h4
    rw [←h4.2]
    exact hlt k h3
   ·cases e:qOf due rd T go r with
    | nil=>exact absurd e h
    | cons _ _=>rfl
 refine perm_eq (R:=(· < ·)) (fun a b h1 h2=>by omega) ((List.perm_ext_iff_of_nodup (up.imp fun h=>Nat.ne_of_lt h) (up2.imp fun h=>Nat.ne_of_lt h)).mpr fun r=>?_) up up2
 rw [mem r,mem2 r]
theorem bag_mem {ds:List M1.Rd} {due:Nat→Int} {rd:Nat→Nat} {T:Int} {go:List Nat} {r i:Nat} (h:i∈(bagOf ds due rd T go r).2):i∈go∧due i≤T∧rd i=r:=by
 unfold bagOf bagN at h
 have h1:=(sortN_perm _).mem_iff.mp h
 obtain ⟨c,hc,rfl⟩:=List.mem_map.mp h1
 have h2:=(pairsS_perm _).mem_iff.mp (List.mem_of_mem_take hc)
 unfold qOf at h2
 obtain ⟨k,hk,rfl⟩:=List.mem_map.mp h2
 obtain ⟨h3,h4⟩:=List.mem_filter.mp hk
 simp only [Bool.and_eq_true,decide_eq_true_eq] at h4
 exact ⟨h3,h4.1,h4.2⟩
theorem bag_nd {ds:List M1.Rd} {due:Nat→Int} {rd:Nat→Nat} {T:Int} {go:List Nat} (nd:go.Nodup) (r:Nat):(bagOf ds due rd T go r).2.Nodup:=((sortN_perm _).nodup_iff).mpr (pick_nd nd _)
noncomputable def sendAll (hs:List (List Nat)) (ds:List M1.Rd) (bs:List (Kt × List Nat)) (sss:List (List Step)):List (List Step):=bs.foldl (fun s b=>addAt (stepK hs ds b.1) b.2 s) sss
theorem send_len (hs:List (List Nat)) (ds:List M1.Rd):∀(bs:List (Kt × List Nat)) (sss:List (List Step)),(sendAll hs ds bs sss).length=sss.length
 | [],_=>rfl
 | b::bs,sss=>by
  show (sendAll hs ds bs (addAt (stepK hs ds b.1) b.2 sss)).length=_
  rw [send_len hs ds bs,addAt_len]
theorem send_get (hs:List (List Nat)) (ds:List M1.Rd):∀(bs:List (Kt × List Nat)) (sss:List (List Step)) (i:Nat),(sendAll hs ds bs sss)[i]?=(sss[i]?).map fun ss=>ss++((bs.filter fun b=>decide (i∈b.2)).map fun b=>stepK hs ds b.1)
 | [],sss,i=>by
  show sss[i]?=_
  cases sss[i]? <;> simp
 | b::bs,sss,i=>by
  show (sendAll hs ds bs (addAt (stepK hs ds b.1) b.2 sss))[i]?=_
  rw [send_get hs ds bs,addAt_get,Option.map_map]
  congr 1
  funext ss
  show (if i∈b.2 then ss++[stepK hs ds b.1] else ss)++_=_
  rw [List.filter_cons]
  by_cases z:i∈b.2
  ·rw [if_pos z,if_pos (decide_eq_true z),List.map_cons,List.append_assoc]
   rfl
  ·rw [if_neg z,if_neg (by rw [decide_eq_false z];decide)]
theorem send_snoc (hs:List (List Nat)) (ds:List M1.Rd) (bs:List (Kt × List Nat)) (b:Kt × List Nat) (sss:List (List Step)):sendAll hs ds (bs++[b]) sss=addAt (stepK hs ds b.1) b.2 (sendAll hs ds bs sss):=by
 unfold sendAll
 rw [List.foldl_append]
 rfl
theorem filter_one {L:List Nat} (nd:L.Nodup) {p:Nat→Bool} {r0:Nat} (h:∀r∈L,p r=true→r=r0) (h0:p r0=true→r0∈L):L.filter p=if p r0=true then [r0] else []:=by
 by_cases z:p r0=true
 ·rw [if_pos z]
  have nf:=nd.filter p
  have all:∀r∈L.filter p,r=r0:=fun r hr=>h r (List.mem_filter.mp hr).1 (List.mem_filter.mp hr).2
  have m0:r0∈L.filter p:=List.mem_filter.mpr ⟨h0 z,z⟩
  match e:L.filter p with
  | []=>rw [e] at m0;exact absurd m0 List.not_mem_nil
  | [a]=>rw [e] at all;rw [all a (.head _)]
  | a::b::l=>
   rw [e] at all nf
   have:=(List.nodup_cons.mp nf).1
   exact absurd (by rw [all a (.head _),all b (.tail _ (.head _))];exact .head _) this
 ·rw [if_neg z]
  refine List.filter_eq_nil_iff.mpr fun r hr hp=>z ?_
  rw [←h r hr hp]
  exact hp
noncomputable def sentN (ds:List M1.Rd) (due:Nat→Int) (rd:Nat→Nat) (T:Int) (go:List Nat) (i:Nat):Bool:=decide (i∈(bagOf ds due rd T go (rd i)).2)
theorem bags_of {ds:List M1.Rd} {due:Nat→Int} {rd:Nat→Nat} {T:Int} {go:List Nat} (hlt:∀k∈go,rd k < ds.length) (i:Nat):(bagsN ds due rd T go).filter (fun b=>decide (i∈b.2))=if sentN ds due rd T go i=true then [bagOf ds due rd T go (rd i)] else []:=by
 unfold bagsN
 rw [List.filter_map]
 have nd:(roadsAt ds.length due rd T go).Nodup:=(List.pairwise_lt_range.filter _).imp fun h=>Nat.ne_of_lt h
 rw [filter_one (r0:=rd i) nd (p:=(fun b:Kt × List Nat=>decide (i∈b.2))∘bagOf ds due rd T go) (fun r _ hp=>((bag_mem (of_decide_eq_true hp)).2.2).symm) (fun hp=>?_)]
 ·show List.map _ (if sentN ds due rd T go i=true then [rd i] else [])=_
  cases sentN ds due rd T go i <;> rfl
 ·have m:=bag_mem (of_decide_eq_true hp)
  unfold roadsAt
  refine List.mem_filter.mpr ⟨List.mem_range.mpr (hlt i m.1),?_⟩
  have hm:(due i,i)∈qOf due rd T go (rd i):=by
   unfold qOf
   refine List.mem_map.mpr ⟨i,List.mem_filter.mpr ⟨m.1,?_⟩,rfl⟩
   rw [decide_eq_true m.2.1,decide_eq_true rfl]
   rfl
  cases e:qOf due rd T go (rd i) with
  | nil=>rw [e] at hm;exact absurd hm List.not_mem_nil
  | cons _ _=>rfl
structure CstL (mg:Str→Option Value):Prop where
 MOST_LETTERS:Cst mg "MOST_LETTERS" 40
 MOST_TURN:Cst mg "MOST_TURN" 1000000000
 MOST_APART:Cst mg "MOST_APART" 30
noncomputable def isLetterD (hs:List PyData):PyData→Bool
 | .tuple [a,t,g]=>unlikeD hs a g && withinD 0 1000000000 t
 | _=>false
theorem isLetter_len {hs ds:List PyData} (h:ds.length≠3):isLetterD hs (.tuple ds)=false:=by
 rcases ds with _ | ⟨a,_ | ⟨b,_ | ⟨c,_ | ⟨e,r⟩⟩⟩⟩ <;> first | rfl | (simp at h)
noncomputable def turnD:PyData→Int
 | .tuple [_,.int t,_]=>t
 | _=>0
theorem letter_shape {hs:List PyData} {d:PyData} (h:isLetterD hs d=true):∃a t g,d=.tuple [a,.int t,g]∧0≤t∧t≤1000000000:=by
 unfold isLetterD at h
 split at h
 ·rename_i a t g
  rw [Bool.and_eq_true] at h
  cases t with
  | int i=>
   have h2:(decide (0≤i) && decide (i≤1000000000))=true:=h.2
   rw [Bool.and_eq_true] at h2
   exact ⟨a,i,g,rfl,of_decide_eq_true h2.1,of_decide_eq_true h2.2⟩
  | _=>cases h.2
 ·cases h
noncomputable def apartN (ns:List Int):Int:=if ns=[] then 0 else L_max ns - L_min ns
noncomputable def spLetD:Sp:=fun vs H Q _=>∃(a:Addr) (hs:List PyData) (v:L2.V) (d:PyData),vs=[.ref a,v]∧Th H (.ref a) (.list hs)∧Th H v d∧d.depth≤61∧Q (.bl (isLetterD hs d)) H
noncomputable def spApart:Sp:=fun vs H Q _=>∃(v:L2.V) (hs ds:List PyData),vs=[v]∧Th H v (.list ds)∧(∀d∈ds,isLetterD hs d=true)∧∀H',Same H H'→Q (.int (apartN (ds.map turnD))) H'
noncomputable def spIL (C:Addr):Sp:=fun vs H Q _=>∃(e:Addr) (v:L2.V),vs=[.ref e,v]∧H e=some (exU e C)∧∀dx,H dx=none→dx≠e→Q .non (upd (upd H dx (xdO dx [("number",v)])) e (exF e C dx))
noncomputable def firstBad (hs:List PyData):List PyData→Option Nat
 | []=>none
 | d::r=>if isLetterD hs d=true then (firstBad hs r).map (·+1) else some 0
noncomputable def numV:Option Nat→L2.V
 | some i=>.int i
 | none=>.non
noncomputable def AreL (hs ds:List PyData):Prop:=firstBad hs ds=none∧ds.length≤40∧apartN (ds.map turnD)≤30
noncomputable def spLof (C NL:Addr):Sp:=fun vs H Q E=>∃(x a' b':Addr) (hs:List (List Nat)) (zs:List L2.V) (v:L2.V) (ds:List PyData),vs=[.ref x,v]∧NetAt C H x a' b' (txs hs) zs∧Good hs∧Th H v (.list ds)∧(PyData.list ds).depth≤62∧
 (AreL (hD hs) ds→∀l H',H l=none→Same H H'→Th H' (.ref l) (.list ds)→Q (.ref l) H')∧
 (¬AreL (hD hs) ds→∀dx H',H dx=none→Same H H'→H' dx=some (xdO dx [("number",numV (firstBad (hD hs) ds))])→E (.ref NL) (some dx) H')
section
variable {P:Program} {w:World} {K:PySem.W.Frag} {mg:Str→Option Value} {base:Heap}
noncomputable abbrev sIL:Stmt:=inClass (top 6) 0
theorem scIL:FnScope ["self","number"] ["self","number"] (defScope sIL):=⟨rfl,rfl,rfl,by decide+kernel,rfl,by decide+kernel,by decide+kernel⟩
theorem ok_iL {C R f:Addr} {fd:FuncData} (F:Fun K "__init__" "NoLetter.__init__" sIL f fd) (xc:XC K mg "RoadError" C R) (at_RoadError:mg "RoadError"=some (.ref R)) (hn:PySem.W.findIn K (.ref C) "number"=some none):FnOk P w K mg base CX0 1 f fd ["self","number"] (spIL C):=by
 refine F.ok scIL (fun vs H Q E h=>?_) (fun cdv A outer s H vs Q E hr h=>?_)
 ·obtain ⟨e,v,rfl,_⟩:=h
  rfl
 ·obtain ⟨e,v,rfl,he,q⟩:=h
  refine ⟨_,(pss_cons (ps_expr (pe_binit (by rfl) at_RoadError xc.rd xc.fc xc.sg (pa_cons (pv 0) (pa_cons pe_str pa_nil))))
   (pss_one (ps_fldX (y:="RoadError") (R:=R) (pv 0) (pv 1) rfl))),?_⟩
  refine ⟨_,rfl,e,C,_,rfl,he,xc,(by show 1≤sizeLine;decide),?_⟩
  exact ⟨_,rfl,_,rfl,e,C,rfl,xc,hn,.inl ⟨he,q⟩⟩
noncomputable abbrev sIsL:Stmt:=top 16
theorem scIsL:FnScope ["houses","thing"] ["houses","thing"] (defScope sIsL):=⟨rfl,rfl,rfl,by decide+kernel,rfl,by decide+kernel,by decide+kernel⟩
theorem ok_isL {f f1 f2 f3:Addr} {fd fd1 fd2 fd3:FuncData} (F:Fun K "is_letter" "is_letter" sIsL f fd) (CL:CstL mg)
  (D_is_tuple_of:Dn K mg "is_tuple_of" sTupOf ["thing","length"] f1 fd1) (G_is_tuple_of:FnOk P w K mg base CX0 1 f1 fd1 ["thing","length"] spTupOfD)
  (D_are_unlike_houses:Dn K mg "are_unlike_houses" sUnlike ["houses","one","other"] f2 fd2) (G_are_unlike_houses:FnOk P w K mg base CX0 1 f2 fd2 ["houses","one","other"] spUnlikeD)
  (D_is_whole_within:Dn K mg "is_whole_within" sWithin ["thing","least","greatest"] f3 fd3) (G_is_whole_within:FnOk P w K mg base CX0 2 f3 fd3 ["thing","least","greatest"] spWithinD):
  FnOk P w K mg base CX0 3 f fd ["houses","thing"] spLetD:=by
 refine F.ok scIsL (fun vs H Q E h=>?_) (fun cdv A outer s H vs Q E hr h=>?_)
 ·obtain ⟨a,hs,v,d,rfl,_⟩:=h
  rfl
 ·obtain ⟨a,hs,v,d,rfl,ha,h,dd,q⟩:=h
  refine ⟨_,(pss_one (ps_ret (pe_and (pe_call G_is_tuple_of (hr.mono (by decide)) (by rfl) D_is_tuple_of.at_ D_is_tuple_of.fn.kp D_is_tuple_of.bd .nil pass0 (pa_cons (pv 1) (pa_cons pe_int pa_nil))) (pe_and (pe_call G_are_unlike_houses (hr.mono (by decide)) (by rfl) D_are_unlike_houses.at_ D_are_unlike_houses.fn.kp D_are_unlike_houses.bd .nil pass0 (pa_cons (pv 0) (pa_cons (pe_ix ix_tup (pv 1) pe_int (fun _ _=>rfl)) (pa_cons (pe_ix ix_tup (pv 1) pe_int (fun _ _=>rfl)) pa_nil)))) (pe_one (pe_call G_is_whole_within (hr.mono (by decide)) (by rfl) D_is_whole_within.at_ D_is_whole_within.fn.kp D_is_whole_within.bd .nil pass0 (pa_cons (pe_ix ix_tup (pv 1) pe_int (fun _ _=>rfl)) (pa_cons pe_int (pa_cons (pe_const (by rfl) CL.MOST_TURN) pa_nil))))))))),?_⟩
  refine ⟨_,rfl,v,d,_,rfl,h,_,rfl,?_⟩
  cases h with
  | @tup r xs ds hr' z t=>
   show if decide ((ds.length:Int)=3)=true then _ else _
   by_cases h4:ds.length=3
   ·refine iteB (decide_eq_true (by omega)) ?_
    have hx4:xs.length=3:=by rw [t.len];exact h4
    obtain ⟨x0,x1,x2,rfl⟩:∃x0 x1 x2,xs=[x0,x1,x2]:=by
     rcases xs with _ | ⟨a,_ | ⟨b,_ | ⟨c,_ | ⟨d,r⟩⟩⟩⟩ <;> first | exact ⟨_,_,_,rfl⟩ | (simp at hx4)
    cases t with
    | cons t0 t=>
     cases t with
     | cons t1 t=>
      cases t with
      | cons t2 t=>
       cases t
       rename_i d0 d1 d2
       have q:Q (.bl (unlikeD hs d0 d2 && withinD 0 1000000000 d1)) H:=q
       have hdp:PyData.depthAll [d0,d1,d2]+1≤61:=dd
       have b0:d0.depth≤60:=Nat.le_trans (depth_mem (by simp:d0∈[d0,d1,d2])) (by omega)
       have b1:d2.depth≤60:=Nat.le_trans (depth_mem (by simp:d2∈[d0,d1,d2])) (by omega)
       refine ⟨_,rfl,_,rfl,r,_,_,_,rfl,rfl,SqT.of hr',rfl,_,rfl,r,_,_,_,rfl,rfl,SqT.of hr',rfl,a,hs,x0,x2,d0,d2,rfl,ha,t0,t2,b0,b1,_,rfl,?_⟩
       cases h1:unlikeD hs d0 d2 with
       | false=>
        rw [h1] at q
        exact iteF q
       | true=>
        rw [h1,Bool.true_and] at q
        exact iteT ⟨_,rfl,r,_,_,_,rfl,rfl,SqT.of hr',rfl,x1,d1,_,_,rfl,t1,q⟩
   ·refine iteN (decide_eq_false (by omega)) ?_
    rw [isLetter_len h4] at q
    exact q
  | _=>exact iteF q
noncomputable abbrev sApart:Stmt:=top 17
theorem scApart:FnScope ["letters","turns"] ["letters"] (defScope sApart):=⟨rfl,rfl,rfl,by decide+kernel,rfl,by decide+kernel,by decide+kernel⟩
theorem turns_map {H:Hp} {hs:List PyData}:∀{vs:List L2.V} {ds:List PyData},Ths H vs ds→(∀d∈ds,isLetterD hs d=true)→vs.map (fun v=>V.int (turnD (datum H v)))=(ds.map turnD).map V.int
 | _,_,.nil,_=>rfl
 | _,_,.cons a b,h=>by
  simp only [List.map_cons]
  rw [datum_of a,turns_map b fun d hd=>h d (List.mem_cons_of_mem _ hd)]
theorem ok_apart {f:Addr} {fd:FuncData} (F:Fun K "turns_apart" "turns_apart" sApart f fd) (B:Blt mg):FnOk P w K mg base CX0 1 f fd ["letters"] spApart:=by
 refine F.ok scApart (fun vs H Q E h=>?_) (fun cdv A outer s H vs Q E hr h=>?_)
 ·obtain ⟨v,hs,ds,rfl,_⟩:=h
  rfl
 ·obtain ⟨v,hs,ds,rfl,hv,hl,q⟩:=h
  obtain ⟨a,xs,rfl,ha,hz,t⟩:=th_lst hv
  refine ⟨_,(pss_cons (ps_setLC (i:=1) scApart.nd rfl rfl rfl (N':=["letter"]) (cs:=[none]) rfl (pi_list (pv 0)) rfl (by decide+kernel) rfl (by decide+kernel) (sub_of (fun p hp=>absurd hp (List.not_mem_nil))) rfl
    (.own .nil)
    (fun C s3 H3 fp pn=>⟨(pg_name (i:=0) (by show (["letter"]:List Str).Nodup;decide+kernel) rfl (.inl rfl)),pif_nil,(pe_ix (ix_tupK (K:=K) rfl) (pv 0) pe_int (fun _ _=>rfl))⟩))
   (pss_one (ps_ret (pe_op op_sub (pe_maxd rfl (by rfl) B.max (pa_cons (pv 1) pa_nil) pe_int) (pe_mind rfl (by rfl) B.min (pa_cons (pv 1) pa_nil) pe_int))))),?_⟩
  dsimp only [tSeq,tAsg]
  refine tlc_map (J:=Itl K a) (H1:=H) (xs:=xs) (rest:=[]) (fun R h=>⟨_,rfl,a,rfl,⟨_,SqL.of ha⟩,h⟩) rfl (wk_list (SqL.of ha)) (small1000 (by omega)) (fun v=>.int (turnD (datum H v))) (fun i x H2 R ex sm hR=>?_) (fun D H' h1 h2 h3=>?_)
  ·obtain ⟨d,ed,hd⟩:=t.get ex
   obtain ⟨da,ti,dg,rfl,_,_⟩:=letter_shape (hl d (List.mem_of_getElem? ed))
   have hR2:=hR H2 (Same.refl _)
   rw [datum_of hd] at hR2
   clear hR
   obtain ⟨r,ys,rfl,hr',_,ty⟩:=th_tup (hd.same sm)
   cases ty with
   | cons t0 ty=>
    cases ty with
    | cons t1 ty=>
     cases ty with
     | cons t2 ty=>
      cases ty
      obtain rfl:=th_int t1
      exact ⟨_,rfl,r,_,_,_,rfl,rfl,SqT.of hr',rfl,hR2⟩
  ·rw [turns_map t hl] at h2
   have q:=q H' h3
   unfold apartN at q
   by_cases hz:ds.map turnD=[]
   ·rw [if_pos hz] at q
    refine ⟨_,rfl,.int 0,D,ds.map turnD,rfl,rfl,SqL.of h2,fun _=>?_,fun z=>absurd hz z⟩
    exact ⟨_,rfl,.int 0,D,ds.map turnD,rfl,rfl,SqL.of h2,fun _=>⟨_,_,rfl,rfl,q⟩,fun z=>absurd hz z⟩
   ·rw [if_neg hz] at q
    refine ⟨_,rfl,.int 0,D,ds.map turnD,rfl,rfl,SqL.of h2,fun z=>absurd z hz,fun _=>?_⟩
    exact ⟨_,rfl,.int 0,D,ds.map turnD,rfl,rfl,SqL.of h2,fun z=>absurd z hz,fun _=>⟨_,_,rfl,rfl,q⟩⟩
noncomputable abbrev sLof:Stmt:=top 18
theorem scLof:FnScope ["net","some","houses","number","thing"] ["net","some"] (defScope sLof):=⟨rfl,rfl,rfl,by decide+kernel,rfl,by decide+kernel,by decide+kernel⟩
theorem firstBad_at {hs:List PyData}:∀{ds:List PyData} {i:Nat},(∀j,j < i→∀d,ds[j]?=some d→isLetterD hs d=true)→(∃d,ds[i]?=some d∧isLetterD hs d=false)→firstBad hs ds=some i
 | [],i,_,⟨d,e,_⟩=>by simp at e
 | x::r,0,_,⟨d,e,h⟩=>by
  simp at e
  subst e
  unfold firstBad
  rw [if_neg (by rw [h];exact Bool.false_ne_true)]
 | x::r,i+1,h0,⟨d,e,h⟩=>by
  unfold firstBad
  rw [if_pos (h0 0 (by omega) x rfl),firstBad_at (ds:=r) (i:=i) (fun j hj d ed=>h0 (j+1) (by omega) d (by simpa using ed)) ⟨d,by simpa using e,h⟩]
  rfl
theorem firstBad_none {hs:List PyData}:∀{ds:List PyData},(∀d∈ds,isLetterD hs d=true)↔firstBad hs ds=none
 | []=>by simp [firstBad]
 | x::r=>by
  unfold firstBad
  by_cases h:isLetterD hs x=true
  ·rw [if_pos h]
   constructor
   ·intro q
    rw [firstBad_none.mp fun d hd=>q d (List.mem_cons_of_mem _ hd)]
    rfl
   ·intro q
    have q2:firstBad hs r=none:=by
     cases e:firstBad hs r with
     | none=>rfl
     | some k=>rw [e] at q;cases q
    intro d hd
    rcases List.mem_cons.mp hd with rfl | hd
    ·exact h
    ·exact firstBad_none.mpr q2 d hd
  ·rw [if_neg h]
   constructor
   ·intro q
    exact absurd (q x (List.mem_cons_self ..)) h
   ·intro q
    cases q
theorem ok_lof {C NL f f1 f2 f3 fI:Addr} {R:Addr} {fd fd1 fd2 fd3 fdI:FuncData} (F:Fun K "letters_of" "letters_of" sLof f fd) (B:Blt mg) (CL:CstL mg) (Cl_Net:Cls K C)
  (M_Net_houses:Mn K C "houses" "Net.houses" sHousesM ["self"] f1 fd1) (G_Net_houses:FnOk P w K mg base CX0 1 f1 fd1 ["self"] (spHousesM C))
  (D_is_letter:Dn K mg "is_letter" sIsL ["houses","thing"] f2 fd2) (G_is_letter:FnOk P w K mg base CX0 3 f2 fd2 ["houses","thing"] spLetD)
  (D_turns_apart:Dn K mg "turns_apart" sApart ["letters"] f3 fd3) (G_turns_apart:FnOk P w K mg base CX0 1 f3 fd3 ["letters"] spApart)
  (xc_NoLetter:XC K mg "RoadError" NL R) (at_NoLetter:mg "NoLetter"=some (.ref NL)) (kp_NoLetter:PySem.W.keepIn K (.ref NL)=true) (in_NoLetter:PySem.W.findIn K (.ref NL) "__init__"=some (some (.ref fI))) (fn_NoLetter:PySem.W.isFn K (.ref fI)=true)
  (G_NoLetter_init:FnOk P w K mg base CX0 1 fI fdI ["self","number"] (spIL NL)) (bd_NoLetter:Binds K fdI ["self","number"] []):
  FnOk P w K mg base (CXd P w) 4 f fd ["net","some"] (spLof C NL):=by
 refine okD F scLof (fun vs H Q E h=>?_) (fun cdv A outer s H vs Q E hr h=>?_)
 ·obtain ⟨x,a',b',hs,zs,v,ds,rfl,_⟩:=h
  rfl
 ·obtain ⟨x,a',b',hs,zs,v,ds,rfl,n,G,hv,dd,q,qE⟩:=h
  obtain ⟨dx,hx⟩:=n.ins
  obtain ⟨a,xs,rfl,ha,hz,t⟩:=th_lst hv
  refine ⟨_,(pss_cons (ps_set (i:=2) scLof.nd rfl (Or.inl rfl) (pe_meth0 (pv 0) Cl_Net M_Net_houses.me G_Net_houses (hr.mono (by decide)) M_Net_houses.bd .nil pass0))
   (pss_cons (ps_for PassesOwn.leaving rfl (pi_enum rfl B.enumerate (pa_cons (pv 1) pa_nil)) (pg_tup rfl (pgs_cons (pg_name (i:=3) scLof.nd rfl (Or.inl rfl)) (pgs_cons (pg_name (i:=4) scLof.nd rfl (Or.inl rfl)) pgs_nil)))
    (pss_one (ps_if (pt_not (pt_val (pe_call G_is_letter (hr.mono (by decide)) (by rfl) D_is_letter.at_ D_is_letter.fn.kp D_is_letter.bd .nil pass0 (pa_cons (pv 2) (pa_cons (pv 4) pa_nil))))) (pss_one (ps_raiseI xc_NoLetter at_NoLetter kp_NoLetter in_NoLetter fn_NoLetter G_NoLetter_init (hr.mono (by decide)) bd_NoLetter rfl (pa_cons (pv 3) pa_nil))) pss_nil)))
   (pss_cons (ps_if (PW.pt (pw_or (pt_cmpR op_gt (pe_callB call_len_seq (by rfl) B.len bt_len (pa_cons (pv 1) pa_nil)) (pe_const (by rfl) CL.MOST_LETTERS) (nomark _)) (pw_or1 (pt_cmpR op_gt (pe_call G_turns_apart (hr.mono (by decide)) (by rfl) D_turns_apart.at_ D_turns_apart.fn.kp D_turns_apart.bd .nil pass0 (pa_cons (pv 1) pa_nil)) (pe_const (by rfl) CL.MOST_APART) (nomark _))))) (pss_one (ps_raiseI xc_NoLetter at_NoLetter kp_NoLetter in_NoLetter fn_NoLetter G_NoLetter_init (hr.mono (by decide)) bd_NoLetter rfl (pa_cons pe_non pa_nil))) pss_nil)
   (pss_one (ps_ret (pe_callTy call_list_of (by rfl) B.list bt_list (pa_cons (pv 1) pa_nil))))))),?_⟩
  refine ⟨_,rfl,x,dx,_,rfl,hx,rfl,x,a',b',_,_,rfl,n,fun l nl=>?_⟩
  have s1:Same H (upd H l (.lst (txs hs))):=upd_free nl
  have hl1:=th_hD (H:=upd H l (.lst (txs hs))) G upd_same
  generalize upd H l (.lst (txs hs))=H1 at s1 hl1 ⊢
  have go:∀(H2:Hp) (v:L2.V),Same H H2→v=numV (firstBad (hD hs) ds)→¬AreL (hD hs) ds→∀e,H2 e=none→spIL NL (V.ref e::[v]) (upd H2 e (exU e NL)) (fun u H3=>u=.non∧∃dx,H3 e=some (exF e NL dx)∧E (.ref NL) (some dx) (del H3 e)) E0:=fun H2 v s2 ev hno e ne=>by
   refine ⟨e,v,rfl,upd_same,fun dx nd nde=>⟨rfl,dx,upd_same,?_⟩⟩
   have nd2:H2 dx=none:=by rw [upd_ne nde] at nd;exact nd
   have e1:del (upd (upd (upd H2 e (exU e NL)) dx (xdO dx [("number",v)])) e (exF e NL dx)) e=upd H2 dx (xdO dx [("number",v)]):=by
    funext b
    by_cases hb:b=e
    ·subst hb
     rw [del_same,upd_ne (Ne.symm nde)]
     exact ne.symm
    ·rw [del_ne hb,upd_ne hb]
     by_cases hb2:b=dx
     ·subst hb2
      rw [upd_same,upd_same]
     ·rw [upd_ne hb2,upd_ne hb2,upd_ne hb]
   rw [e1]
   refine qE hno dx _ (s2.free nd2) (s2.trans (upd_free nd2)) ?_
   rw [upd_same,ev]
  refine ⟨_,rfl,a,rfl,⟨_,SqL.of (s1 _ _ ha)⟩,?_⟩
  refine for_enum (K:=K) (a:=a) (xs:=xs) (fun i σ H2=>Same H1 H2∧(∀j,j < i→∀d,ds[j]?=some d→isLetterD (hD hs) d=true)∧∃u v,σ=[some (.ref x),some (.ref a),some (.ref l),u,v]) ⟨Same.refl _,fun j hj=>absurd hj (by omega),none,none,rfl⟩ (fun i σ H2 h=>SqL.of (h.1 _ _ (s1 _ _ ha))) ?_ ?_
  ·rintro i z σ H2 p ez ⟨s2,hb,u,v,rfl⟩ np
   obtain ⟨d,ed,hd⟩:=t.get ez
   have s3:=upd_free (o:=.tup [V.int (i:Int),z]) np
   have s13:=s1.trans (s2.trans s3)
   have hdp:PyData.depthAll ds+1≤62:=dd
   have b0:d.depth≤61:=Nat.le_trans (depth_mem (List.mem_of_getElem? ed)) (by omega)
   refine ⟨p,_,rfl,SqT.of upd_same,rfl,_,_,rfl,_,_,rfl,rfl,?_⟩
   refine ⟨_,rfl,_,rfl,l,hD hs,z,d,rfl,hl1.same (s2.trans s3),hd.same s13,b0,_,rfl,?_⟩
   cases hi:isLetterD (hD hs) d with
   | true=>exact iteF ⟨s2.trans s3,fun j hj d' ed'=>by
     rcases Nat.lt_or_ge j i with h | h
     ·exact hb j h d' ed'
     ·rw [show j=i by omega,ed] at ed'
      cases ed'
      exact hi,some (.int (i:Int)),some z,rfl⟩
   | false=>
    have fb:=firstBad_at (hs:=hD hs) hb ⟨d,ed,hi⟩
    refine iteT ⟨_,rfl,(by show 1≤sizeLine;decide),go _ _ s13 (by rw [fb];rfl) fun hA=>?_⟩
    have:=hA.1
    rw [fb] at this
    cases this
  ·rintro σ H2 ⟨s2,hb,u,v,rfl⟩
   have s12:=s1.trans s2
   have hgood:∀d∈ds,isLetterD (hD hs) d=true:=fun d hd=>by
    obtain ⟨j,hj,rfl⟩:=List.mem_iff_getElem.mp hd
    exact hb j (by rw [t.len];exact hj) _ (List.getElem?_eq_getElem hj)
   have fb:=firstBad_none.mp hgood
   have ha2:=s12 _ _ ha
   have hlen:=t.len
   refine ⟨_,rfl,a,xs,rfl,.inl (SqL.of ha2),_,_,rfl,rfl,_,rfl,?_⟩
   by_cases h40:ds.length≤40
   ·refine iteN (decide_eq_false (by omega)) ⟨_,rfl,.ref a,hD hs,ds,rfl,hv.same s12,hgood,fun H3 s3=>?_⟩
    have s13:=s12.trans s3
    refine ⟨_,_,rfl,rfl,_,rfl,?_⟩
    by_cases h30:apartN (ds.map turnD)≤30
    ·refine iteN (decide_eq_false (by omega)) ?_
     refine ⟨_,rfl,a,xs,rfl,.inl (SqL.of (s13 _ _ ha)),fun l2 nl2=>?_⟩
     have s4:=upd_free (o:=.lst xs) nl2
     exact q ⟨fb,h40,h30⟩ l2 _ (s13.free nl2) (s13.trans s4) (.lst upd_same hz (t.same (s13.trans s4)))
    ·refine iteB (decide_eq_true (by omega)) ⟨(by show 1≤sizeLine;decide),go _ _ s13 (by rw [fb];rfl) fun hA=>h30 hA.2.2⟩
   ·refine iteB (decide_eq_true (by omega)) ?_
    exact iteT ⟨(by show 1≤sizeLine;decide),go _ _ s12 (by rw [fb];rfl) fun hA=>h40 hA.2.1⟩
end
open PySem L2 L3 M1
noncomputable def dayFs (n pl y sh wk se:Addr) (pr:Int):List (Str × L2.V):=[("net",.ref n),("present",.int pr),("posted",.ref pl),("ways",.ref y),("shut_roads",.ref sh),("walk",.ref wk),("sent",.ref se)]
structure DayC (K:PySem.W.Frag) (C:Addr):Prop where
 cl:Cls K C
 nn:PySem.W.findIn K (.ref C) "net"=some none
 np:PySem.W.findIn K (.ref C) "present"=some none
 no:PySem.W.findIn K (.ref C) "posted"=some none
 ny:PySem.W.findIn K (.ref C) "ways"=some none
 nh:PySem.W.findIn K (.ref C) "shut_roads"=some none
 nw:PySem.W.findIn K (.ref C) "walk"=some none
 ns:PySem.W.findIn K (.ref C) "sent"=some none
structure DA where
 (dx n pl y sh wk dw se g sl t a' b':Addr)
 (rs prs ls bas:List Addr)
noncomputable def DA.mu (A:DA) (x:Addr):List Addr:=x::A.pl::A.y::A.t::A.sh::A.wk::A.g::A.sl::A.se::A.ls
structure DayS where
 pr:Int
 lds:List (Str × Int × Str)
 sss:List (List Step)
 snt:List (Kt × List Nat)
 kvs:DTs
 shs:List Nat
noncomputable def shV (l:List Nat):List (Key × L2.V):=l.map fun r:Nat=>(Sum.inl (r:Int),.bl true)
noncomputable def goalsS (lds:List (Str × Int × Str)):List Str:=lds.map fun d=>d.2.2
structure DayAt (CD C CW CN:Addr) (Hb H:Hp) (x:Addr) (A:DA) (hs:List (List Nat)) (ds:List M1.Rd) (s:DayS):Prop where
 sb:Same Hb H
 net:NetAt CN Hb A.n A.a' A.b' (txs hs) (refs A.rs)
 rds:RoadsAt Hb hs A.rs ds
 ins:H x=some (.ins CD A.dx (dayFs A.n A.pl A.y A.sh A.wk A.se s.pr))
 po:H A.pl=some (.lst (refs A.prs))
 pt:Tups H A.prs (s.lds.map ltT)
 wy:∃dy,H A.y=some (.ins CW dy (waysF A.n A.t))
 wt:H A.t=some (.dT s.kvs)
 sh:H A.sh=some (.dK (shV s.shs))
 wi:H A.wk=some (.ins C A.dw (walkFs A.n A.g A.sl))
 wg:H A.g=some (.lst ((goalsS s.lds).map V.str))
 ws:H A.sl=some (.lst (refs A.ls))
 we:Paired (StepsAt H) A.ls s.sss
 se:H A.se=some (.lst (refs A.bas))
 sp:Paired (BagAt H) A.bas s.snt
 nd:(A.mu x).Nodup
 fr:∀b∈A.mu x,Hb b=none
structure Mv (M M':List Addr) (H H':Hp):Prop where
 keep:∀b o,b∉M→H b=some o→H' b=some o
 own:∀b∈M',b∈M∨H b=none
theorem Mv.refl {M:List Addr} {H H':Hp} (sm:Same H H'):Mv M M H H':=⟨fun b o _ e=>sm b o e,fun _ h=>.inl h⟩
theorem Mv.trans {M M' M'':List Addr} {H H' H'':Hp} (a:Mv M M' H H') (b:Mv M' M'' H' H''):Mv M M'' H H'':=by
 refine ⟨fun c o nc e=>b.keep c o (fun z=>?_) (a.keep c o nc e),fun c hc=>?_⟩
 ·rcases a.own c z with h | h
  ·exact nc h
  ·rw [h] at e;cases e
 ·rcases b.own c hc with h | h
  ·exact a.own c h
  ·by_cases hm:c∈M
   ·exact .inl hm
   ·right
    cases e:H c with
    | none=>rfl
    | some o=>rw [a.keep c o hm e] at h;cases h
theorem DayAt.same {CD C CW CN:Addr} {Hb H H':Hp} {x:Addr} {A:DA} {hs:List (List Nat)} {ds:List M1.Rd} {s:DayS} (D:DayAt CD C CW CN Hb H x A hs ds s) (sm:Same H H'):DayAt CD C CW CN Hb H' x A hs ds s:=
 let ⟨dy,h⟩:=D.wy
 ⟨D.sb.trans sm,D.net,D.rds,sm _ _ D.ins,sm _ _ D.po,D.pt.same sm,⟨dy,sm _ _ h⟩,sm _ _ D.wt,sm _ _ D.sh,sm _ _ D.wi,sm _ _ D.wg,sm _ _ D.ws,each_same D.we sm,sm _ _ D.se,Paired.mapP D.sp fun _ _ h=>h.same sm,D.nd,D.fr⟩
theorem DayAt.notup {CD C CW CN:Addr} {Hb H:Hp} {x:Addr} {A:DA} {hs:List (List Nat)} {ds:List M1.Rd} {s:DayS} (D:DayAt CD C CW CN Hb H x A hs ds s) {b:Addr} (hb:b∈A.mu x) {v:List L2.V}:H b≠some (.tup v):=fun e=>by
 obtain ⟨dy,hy⟩:=D.wy
 unfold DA.mu at hb
 simp only [List.mem_cons] at hb
 rcases hb with rfl | rfl | rfl | rfl | rfl | rfl | rfl | rfl | rfl | hb
 ·rw [D.ins] at e;cases e
 ·rw [D.po] at e;cases e
 ·rw [hy] at e;cases e
 ·rw [D.wt] at e;cases e
 ·rw [D.sh] at e;cases e
 ·rw [D.wi] at e;cases e
 ·rw [D.wg] at e;cases e
 ·rw [D.ws] at e;cases e
 ·rw [D.se] at e;cases e
 ·obtain ⟨i,hi,ei⟩:=List.getElem_of_mem hb
  obtain ⟨_,_,ts,h1,_⟩:=Paired.get D.we (List.getElem?_eq_some_iff.mpr ⟨hi,ei⟩)
  rw [h1] at e;cases e
theorem DayAt.frame {CD C CW CN:Addr} {Hb H H':Hp} {x:Addr} {A:DA} {hs:List (List Nat)} {ds:List M1.Rd} {s:DayS} (D:DayAt CD C CW CN Hb H x A hs ds s) {M:List Addr} (sb':Same Hb H') (k:∀b o,b∉M→H b=some o→H' b=some o) (dj:∀b∈A.mu x,b∉M) (nt:∀b∈M,∀v,H b≠some (.tup v)):DayAt CD C CW CN Hb H' x A hs ds s:=by
 have km:∀b o,b∈A.mu x→H b=some o→H' b=some o:=fun b o hb e=>k b o (dj b hb) e
 have kt:∀b v,H b=some (.tup v)→H' b=some (.tup v):=fun b v e=>k b _ (fun z=>nt b z v e) e
 have mem:∀b,b∈A.mu x↔b=x∨b=A.pl∨b=A.y∨b=A.t∨b=A.sh∨b=A.wk∨b=A.g∨b=A.sl∨b=A.se∨b∈A.ls:=fun b=>by unfold DA.mu;simp only [List.mem_cons]
 obtain ⟨dy,hy⟩:=D.wy
 refine ⟨sb',D.net,D.rds,km _ _ ((mem _).mpr (by simp)) D.ins,km _ _ ((mem _).mpr (by simp)) D.po,Paired.mapP D.pt fun _ _ e=>kt _ _ e,⟨dy,km _ _ ((mem _).mpr (by simp)) hy⟩,km _ _ ((mem _).mpr (by simp)) D.wt,km _ _ ((mem _).mpr (by simp)) D.sh,km _ _ ((mem _).mpr (by simp)) D.wi,km _ _ ((mem _).mpr (by simp)) D.wg,km _ _ ((mem _).mpr (by simp)) D.ws,?_,km _ _ ((mem _).mpr (by simp)) D.se,Paired.mapP D.sp fun _ _ ⟨c,h1,h2⟩=>⟨c,kt _ _ h1,kt _ _ h2⟩,D.nd,D.fr⟩
 have go:∀{ls:List Addr} {sss:List (List Step)},Paired (StepsAt H) ls sss→(∀l∈ls,l∈A.ls)→Paired (StepsAt H') ls sss:=fun {ls sss} p=>by
  induction p with
  | nil=>exact fun _=>.nil
  | cons r t ih=>
   refine fun h=>.cons ?_ (ih fun l hl=>h l (.tail _ hl))
   obtain ⟨ts,h1,h2⟩:=r
   exact ⟨ts,km _ _ ((mem _).mpr (by simp [h _ (.head _)])) h1,Paired.mapP h2 fun _ _ e=>kt _ _ e⟩
 exact go D.we fun _ h=>h
theorem DayAt.walk {CD C CW CN:Addr} {Hb H:Hp} {x:Addr} {A:DA} {hs:List (List Nat)} {ds:List M1.Rd} {s:DayS} (D:DayAt CD C CW CN Hb H x A hs ds s):WalkAt C H A.wk A.n A.g A.sl (goalsS s.lds) A.ls s.sss:=⟨⟨_,D.wi⟩,D.wg,D.ws,D.we⟩
theorem DayAt.ways {CD C CW CN:Addr} {Hb H:Hp} {x:Addr} {A:DA} {hs:List (List Nat)} {ds:List M1.Rd} {s:DayS} (D:DayAt CD C CW CN Hb H x A hs ds s):WaysAt CW CN H A.y A.n A.t A.a' A.b' (txs hs) (refs A.rs) s.kvs:=⟨D.wy,D.net.same D.sb,D.wt⟩
section
variable {P:Program} {w:World} {K:PySem.W.Frag} {mg:Str→Option Value} {base:Heap}
noncomputable def spNow (CD C CW CN:Addr):Sp:=fun vs H Q _=>∃(Hb:Hp) (x:Addr) (A:DA) (hs:List (List Nat)) (ds:List M1.Rd) (s:DayS),vs=[.ref x]∧DayAt CD C CW CN Hb H x A hs ds s∧Q (.int s.pr) H
noncomputable abbrev sNow:Stmt:=inClass (top 42) 1
theorem scNow:FnScope ["self"] ["self"] (defScope sNow):=⟨rfl,rfl,rfl,by decide+kernel,rfl,by decide+kernel,by decide+kernel⟩
theorem ok_now {CD C CW CN f:Addr} {fd:FuncData} (F:Fun K "now" "Day.now" sNow f fd) (DC:DayC K CD):FnOk P w K mg base CX0 1 f fd ["self"] (spNow CD C CW CN):=by
 refine F.ok scNow (fun vs H Q E h=>?_) (fun cdv A outer s H vs Q E hr h=>?_)
 ·obtain ⟨Hb,x,A,hs,ds,s,rfl,_⟩:=h
  rfl
 ·obtain ⟨Hb,x,A,hs,ds,s,rfl,D,q⟩:=h
  refine ⟨_,(pss_one (ps_ret (pe_fld (pv 0) (by rfl)))),?_⟩
  exact ⟨_,rfl,x,CD,_,_,_,rfl,D.ins,DC.cl,DC.np,rfl,q⟩
noncomputable def spLts (CD C CW CN:Addr):Sp:=fun vs H Q _=>∃(Hb:Hp) (x:Addr) (A:DA) (hs:List (List Nat)) (ds:List M1.Rd) (s:DayS),vs=[.ref x]∧DayAt CD C CW CN Hb H x A hs ds s∧∀l,H l=none→Q (.ref l) (upd H l (.lst (refs A.prs)))
noncomputable abbrev sLts:Stmt:=inClass (top 42) 9
theorem scLts:FnScope ["self"] ["self"] (defScope sLts):=⟨rfl,rfl,rfl,by decide+kernel,rfl,by decide+kernel,by decide+kernel⟩
theorem ok_lts {CD C CW CN f:Addr} {fd:FuncData} (F:Fun K "letters" "Day.letters" sLts f fd) (B:Blt mg) (DC:DayC K CD):FnOk P w K mg base CX0 1 f fd ["self"] (spLts CD C CW CN):=by
 refine F.ok scLts (fun vs H Q E h=>?_) (fun cdv A outer s H vs Q E hr h=>?_)
 ·obtain ⟨Hb,x,A,hs,ds,s,rfl,_⟩:=h
  rfl
 ·obtain ⟨Hb,x,A,hs,ds,s,rfl,D,q⟩:=h
  refine ⟨_,(pss_one (ps_ret (pe_callTy call_list_of (by rfl) B.list bt_list (pa_cons (pe_fld (pv 0) (by rfl)) pa_nil)))),?_⟩
  exact ⟨_,rfl,x,CD,_,_,_,rfl,D.ins,DC.cl,DC.no,rfl,A.pl,_,rfl,.inl (SqL.of D.po),q⟩
end
open PySem L2 L3 M1
section
variable {P:Program} {w:World} {K:PySem.W.Frag} {mg:Str→Option Value} {base:Heap}
theorem ne_objs {H:Hp} {a b:Addr} {o u:HO} (ha:H a=some o) (hb:H b=some u) (h:o≠u):a≠b:=fun z=>by rw [z,hb] at ha;exact h (Option.some.inj ha).symm
noncomputable def spDyI (CD C CW CN:Addr):Sp:=fun vs H Q _=>∃(x dx n a' b':Addr) (hs:List (List Nat)) (rs:List Addr) (ds:List M1.Rd) (pr:Int),vs=[.ref x,.ref n,.int pr]∧H x=some (.ins CD dx [])∧NetAt CN H n a' b' (txs hs) (refs rs)∧Good hs∧RoadsAt H hs rs ds∧rs.length≤40∧
 ∀(H':Hp) (A:DA) (kvs:DTs),SameBut x H H'→DayAt CD C CW CN (mask H [x]) H' x A hs ds ⟨pr,[],[],[],kvs,[]⟩→A.n=n→A.rs=rs→ShortTab hs ds kvs→(∀b∈A.mu x,b=x∨H b=none)→Q .non H'
noncomputable abbrev sDyI:Stmt:=inClass (top 42) 0
theorem scDyI:FnScope ["self","net","first"] ["self","net","first"] (defScope sDyI):=⟨rfl,rfl,rfl,by decide+kernel,rfl,by decide+kernel,by decide+kernel⟩
theorem ok_dyI {CD C CW CN f f1 fi:Addr} {fd fd1 fdi:FuncData} (F:Fun K "__init__" "Day.__init__" sDyI f fd) (DC:DayC K CD) (at_Walk:mg "Walk"=some (.ref C))
  (D_shortest:Dn K mg "shortest" sSh ["net"] f1 fd1) (G_shortest:FnOk P w K mg base CX0 4 f1 fd1 ["net"] (spSh CW CN))
  (Mk_Walk:Mk K C fi) (D_Walk_init:Inn K C "Walk.__init__" sWkI ["self","net","letters"] fi fdi) (G_Walk_init:FnOk P w K mg base CX0 2 fi fdi ["self","net","letters"] (spWkI C)):FnOk P w K mg base CX0 5 f fd ["self","net","first"] (spDyI CD C CW CN):=by
 refine F.ok scDyI (fun vs H Q E h=>?_) (fun cdv A outer s H vs Q E hr h=>?_)
 ·obtain ⟨x,dx,n,a',b',hs,rs,ds,pr,rfl,_⟩:=h
  rfl
 ·obtain ⟨x,dx,n,a',b',hs,rs,ds,pr,rfl,hx,N,G,R,r40,q⟩:=h
  refine ⟨_,(pss_cons (ps_fld (pv 0) (pv 1) rfl)
   (pss_cons (ps_fld (pv 0) (pv 2) rfl)
   (pss_cons (ps_fld (pv 0) (pe_lst pa_nil) rfl)
   (pss_cons (ps_fld (pv 0) (pe_call G_shortest (hr.mono (by decide)) (by rfl) D_shortest.at_ D_shortest.fn.kp D_shortest.bd .nil pass0 (pa_cons (pv 1) pa_nil)) rfl)
   (pss_cons (ps_fld (pv 0) pe_dnewK rfl)
   (pss_cons (ps_fld (pv 0) (pe_make Mk_Walk G_Walk_init (hr.mono (by decide)) (by rfl) at_Walk D_Walk_init.bd .nil pass0 (pa_cons (pv 1) (pa_cons (pe_lst pa_nil) pa_nil))) rfl)
   (pss_one (ps_fld (pv 0) (pe_lst pa_nil) rfl)))))))),?_⟩
  have mx:∀b o,b≠x→H b=some o→mask H [x] b=some o:=fun b o nb e=>mask_at e (by simpa using nb)
  obtain ⟨dn,hn⟩:=N.ins
  have nnx:n≠x:=fun z=>by rw [z,hx] at hn;cases hn
  have nax:a'≠x:=ne_objs N.hou hx (by intro z;cases z)
  have nbx:b'≠x:=ne_objs N.roa hx (by intro z;cases z)
  have NB:NetAt CN (mask H [x]) n a' b' (txs hs) (refs rs):=⟨⟨dn,mx _ _ nnx hn⟩,mx _ _ nax N.hou,mx _ _ nbx N.roa⟩
  have RB:RoadsAt (mask H [x]) hs rs ds:=⟨Paired.mapP R.tups fun a d e=>mx _ _ (ne_objs e hx (by intro z;cases z)) e,R.ok⟩
  have up:∀{Hk:Hp} {o:HO},Same (mask H [x]) Hk→Same (mask H [x]) (upd Hk x o):=fun {Hk o} sk=>upd_other (mask_no (by simp)) sk
  have s0:=mask_same H [x]
  have fre:∀{Hk:Hp} {o:HO},Same (mask H [x]) Hk→Hk x=some o→∀{b},Hk b=none→H b=none∧b≠x:=fun {Hk o} sk ex {b} e=>by
   have nb:b≠x:=fun z=>by rw [z,ex] at e;cases e
   refine ⟨?_,nb⟩
   cases e2:H b with
   | none=>rfl
   | some u=>rw [sk _ _ (mx b u nb e2)] at e;cases e
  refine ⟨_,rfl,_,rfl,x,CD,dx,_,rfl,hx,DC.cl,DC.nn,(by show 0 < 1000;decide),?_⟩
  refine ⟨_,rfl,_,rfl,x,CD,dx,_,rfl,upd_same,DC.cl,DC.np,(by show 1 < 1000;decide),?_⟩
  have s2:Same (mask H [x]) (upd (upd H x (.ins CD dx [("net",.ref n)])) x (.ins CD dx [("net",.ref n),("present",.int pr)])):=up (up s0)
  have h2:upd (upd H x (.ins CD dx [("net",.ref n)])) x (.ins CD dx [("net",.ref n),("present",.int pr)]) x=_:=upd_same
  show tSeq _ _ _ _ (upd (upd H x (.ins CD dx [("net",.ref n)])) x (.ins CD dx [("net",.ref n),("present",.int pr)]))
  generalize upd (upd H x (.ins CD dx [("net",.ref n)])) x (.ins CD dx [("net",.ref n),("present",.int pr)])=H2 at s2 h2 ⊢
  refine ⟨(by show 0≤sizeLine;decide),fun pl npl=>?_⟩
  have f1:=fre s2 h2 npl
  have s3:=s2.trans (upd_free (o:=.lst []) npl)
  refine ⟨_,rfl,x,CD,dx,_,rfl,(upd_ne f1.2.symm).trans h2,DC.cl,DC.no,(by show 2 < 1000;decide),?_⟩
  have s4:=up (o:=.ins CD dx [("net",.ref n),("present",.int pr),("posted",.ref pl)]) s3
  have h4:upd (upd H2 pl (.lst [])) x (.ins CD dx [("net",.ref n),("present",.int pr),("posted",.ref pl)]) x=_:=upd_same
  have p4:upd (upd H2 pl (.lst [])) x (.ins CD dx [("net",.ref n),("present",.int pr),("posted",.ref pl)]) pl=some (.lst (refs [])):=(upd_ne f1.2).trans upd_same
  show tSeq _ _ _ _ (upd (upd H2 pl (.lst [])) x (.ins CD dx [("net",.ref n),("present",.int pr),("posted",.ref pl)]))
  generalize upd (upd H2 pl (.lst [])) x (.ins CD dx [("net",.ref n),("present",.int pr),("posted",.ref pl)])=H4 at s4 h4 p4 ⊢
  refine ⟨_,rfl,n,a',b',hs,rs,ds,rfl,NB.same s4,G,RB.same s4,r40,fun y t H5 kvs ny nt s45 WY ST=>?_⟩
  have f2:=fre s4 h4 ny
  have f3:=fre s4 h4 nt
  obtain ⟨dy,hy⟩:=WY.ins
  have nyt:y≠t:=L2.ne_of hy WY.told (by intro z;cases z)
  have npy:pl≠y:=ne_of_none p4 ny
  have npt:pl≠t:=ne_of_none p4 nt
  have s5:=s4.trans s45
  refine ⟨_,rfl,x,CD,dx,_,rfl,s45 _ _ h4,DC.cl,DC.ny,(by show 3 < 1000;decide),?_⟩
  have s6:=up (o:=.ins CD dx [("net",.ref n),("present",.int pr),("posted",.ref pl),("ways",.ref y)]) s5
  have h6:upd H5 x (.ins CD dx [("net",.ref n),("present",.int pr),("posted",.ref pl),("ways",.ref y)]) x=_:=upd_same
  have p6:upd H5 x (.ins CD dx [("net",.ref n),("present",.int pr),("posted",.ref pl),("ways",.ref y)]) pl=_:=(upd_ne f1.2).trans (s45 _ _ p4)
  have y6:upd H5 x (.ins CD dx [("net",.ref n),("present",.int pr),("posted",.ref pl),("ways",.ref y)]) y=_:=(upd_ne f2.2).trans hy
  have t6:upd H5 x (.ins CD dx [("net",.ref n),("present",.int pr),("posted",.ref pl),("ways",.ref y)]) t=_:=(upd_ne f3.2).trans WY.told
  show tSeq _ _ _ _ (upd H5 x (.ins CD dx [("net",.ref n),("present",.int pr),("posted",.ref pl),("ways",.ref y)]))
  generalize upd H5 x (.ins CD dx [("net",.ref n),("present",.int pr),("posted",.ref pl),("ways",.ref y)])=H6 at s6 h6 p6 y6 t6 ⊢
  refine fun sh nsh=>?_
  have f4:=fre s6 h6 nsh
  have u7:=upd_free (o:=.dK []) nsh
  refine ⟨_,rfl,x,CD,dx,_,rfl,u7 _ _ h6,DC.cl,DC.nh,(by show 4 < 1000;decide),?_⟩
  have s8:=up (o:=.ins CD dx [("net",.ref n),("present",.int pr),("posted",.ref pl),("ways",.ref y),("shut_roads",.ref sh)]) (s6.trans u7)
  have h8:upd (upd H6 sh (.dK [])) x (.ins CD dx [("net",.ref n),("present",.int pr),("posted",.ref pl),("ways",.ref y),("shut_roads",.ref sh)]) x=_:=upd_same
  have k8:∀b o,b≠x→H6 b=some o→upd (upd H6 sh (.dK [])) x (.ins CD dx [("net",.ref n),("present",.int pr),("posted",.ref pl),("ways",.ref y),("shut_roads",.ref sh)]) b=some o:=fun b o nb e=>(upd_ne nb).trans (u7 _ _ e)
  have q8:upd (upd H6 sh (.dK [])) x (.ins CD dx [("net",.ref n),("present",.int pr),("posted",.ref pl),("ways",.ref y),("shut_roads",.ref sh)]) sh=some (.dK []):=(upd_ne f4.2).trans upd_same
  show tSeq _ _ _ _ (upd (upd H6 sh (.dK [])) x (.ins CD dx [("net",.ref n),("present",.int pr),("posted",.ref pl),("ways",.ref y),("shut_roads",.ref sh)]))
  generalize upd (upd H6 sh (.dK [])) x (.ins CD dx [("net",.ref n),("present",.int pr),("posted",.ref pl),("ways",.ref y),("shut_roads",.ref sh)])=H8 at s8 h8 k8 q8 ⊢
  have p8:=k8 _ _ f1.2 p6
  have y8:=k8 _ _ f2.2 y6
  have t8:=k8 _ _ f3.2 t6
  have nps:pl≠sh:=ne_of_none p6 nsh
  have nys:y≠sh:=ne_of_none y6 nsh
  have nts:t≠sh:=ne_of_none t6 nsh
  refine ⟨_,rfl,(by show 0≤sizeLine;decide),fun lq nlq=>fun wk dw nwk ndw nwd=>?_⟩
  have u9:=upd_free (o:=.lst []) nlq
  have l9:upd H8 lq (.lst []) lq=some (.lst (refs [])):=upd_same
  generalize upd H8 lq (.lst [])=H9 at u9 l9 nwk ndw ⊢
  have u10:Same H9 (upd (upd H9 dw (.own wk)) wk (.ins C dw [])):=fun b u e=>by
   rw [upd_ne (ne_of_none e nwk),upd_ne (ne_of_none e ndw)]
   exact e
  have w10:upd (upd H9 dw (.own wk)) wk (.ins C dw []) wk=some (.ins C dw []):=upd_same
  generalize upd (upd H9 dw (.own wk)) wk (.ins C dw [])=H10 at u10 w10 ⊢
  have s8A:=u9.trans u10
  have s10:=s8.trans s8A
  have h10:=s8A _ _ h8
  have fw:=fre (s8.trans u9) (u9 _ _ h8) nwk
  have old:∀{b o},H8 b=some o→b≠wk:=fun {b o} e=>ne_of_none (u9 _ _ e) nwk
  have p10:=s8A _ _ p8
  have y10:=s8A _ _ y8
  have t10:=s8A _ _ t8
  have q10:=s8A _ _ q8
  refine ⟨wk,dw,n,lq,[],[],rfl,w10,u10 _ _ l9,.nil,Nat.zero_le _,fun H11 g sl lls sb WA ng nsl _ _ ngs=>⟨rfl,?_⟩⟩
  have nl:lls=[]:=by
   have:=Paired.length WA.each
   exact List.length_eq_zero_iff.mp this
  subst nl
  obtain ⟨dw',hwk⟩:=WA.ins
  have fg:=fre s10 h10 ng
  have fs:=fre s10 h10 nsl
  have x11:=sb _ _ fw.2.symm h10
  have p11:=sb _ _ (old p8) p10
  have y11:=sb _ _ (old y8) y10
  have t11:=sb _ _ (old t8) t10
  have q11:=sb _ _ (old q8) q10
  have s11:Same (mask H [x]) H11:=fun b o e=>by
   refine sb b o (fun z=>?_) (s10 b o e)
   have:=(mask_same H [x]) _ _ e
   rw [z,fw.1] at this
   cases this
  refine ⟨_,rfl,x,CD,dx,_,rfl,x11,DC.cl,DC.nw,(by show 5 < 1000;decide),?_⟩
  have s12:=up (o:=.ins CD dx [("net",.ref n),("present",.int pr),("posted",.ref pl),("ways",.ref y),("shut_roads",.ref sh),("walk",.ref wk)]) s11
  have h12:upd H11 x (.ins CD dx [("net",.ref n),("present",.int pr),("posted",.ref pl),("ways",.ref y),("shut_roads",.ref sh),("walk",.ref wk)]) x=_:=upd_same
  have k12:∀b o,b≠x→H11 b=some o→upd H11 x (.ins CD dx [("net",.ref n),("present",.int pr),("posted",.ref pl),("ways",.ref y),("shut_roads",.ref sh),("walk",.ref wk)]) b=some o:=fun b o nb e=>(upd_ne nb).trans e
  dsimp only
  show sFld _ _ _ _ _ _ (upd H11 x (.ins CD dx [("net",.ref n),("present",.int pr),("posted",.ref pl),("ways",.ref y),("shut_roads",.ref sh),("walk",.ref wk)]))
  generalize upd H11 x (.ins CD dx [("net",.ref n),("present",.int pr),("posted",.ref pl),("ways",.ref y),("shut_roads",.ref sh),("walk",.ref wk)])=H12 at s12 h12 k12 ⊢
  have p12:=k12 _ _ f1.2 p11
  have y12:=k12 _ _ f2.2 y11
  have t12:=k12 _ _ f3.2 t11
  have q12:=k12 _ _ f4.2 q11
  have w12:=k12 _ _ fw.2 hwk
  have g12:=k12 _ _ fg.2 WA.goals
  have l12:=k12 _ _ fs.2 WA.steps
  refine ⟨(by show 0≤sizeLine;decide),fun se nse=>?_⟩
  have fe:=fre s12 h12 nse
  have u13:=upd_free (o:=.lst []) nse
  refine ⟨_,rfl,x,CD,dx,_,rfl,u13 _ _ h12,DC.cl,DC.ns,(by show 6 < 1000;decide),?_⟩
  have s14:=up (o:=.ins CD dx [("net",.ref n),("present",.int pr),("posted",.ref pl),("ways",.ref y),("shut_roads",.ref sh),("walk",.ref wk),("sent",.ref se)]) (s12.trans u13)
  have k14:∀b o,b≠x→H12 b=some o→upd (upd H12 se (.lst [])) x (.ins CD dx [("net",.ref n),("present",.int pr),("posted",.ref pl),("ways",.ref y),("shut_roads",.ref sh),("walk",.ref wk),("sent",.ref se)]) b=some o:=fun b o nb e=>(upd_ne nb).trans (u13 _ _ e)
  have e1:=ne_of_none p12 nse
  have e2:=ne_of_none y12 nse
  have e3:=ne_of_none t12 nse
  have e4:=ne_of_none q12 nse
  have e5:=ne_of_none w12 nse
  have e6:=ne_of_none g12 nse
  have e7:=ne_of_none l12 nse
  refine q _ ⟨dx,n,pl,y,sh,wk,dw',se,g,sl,t,a',b',rs,[],[],[]⟩ kvs (fun b o nb e=>s14 _ _ (mx b o nb e)) ⟨s14,NB,RB,upd_same,k14 _ _ f1.2 p12,.nil,⟨dy,k14 _ _ f2.2 y12⟩,k14 _ _ f3.2 t12,k14 _ _ f4.2 q12,k14 _ _ fw.2 w12,k14 _ _ fg.2 g12,k14 _ _ fs.2 l12,.nil,(upd_ne fe.2).trans upd_same,.nil,?_,?_⟩ rfl rfl ST ?_
  ·have o1:=old p8
   have o2:=old y8
   have o3:=old t8
   have o4:=old q8
   have g1:=ne_of_none p10 ng
   have g2:=ne_of_none y10 ng
   have g3:=ne_of_none t10 ng
   have g4:=ne_of_none q10 ng
   have g5:=ne_of_none w10 ng
   have l1:=ne_of_none p10 nsl
   have l2:=ne_of_none y10 nsl
   have l3:=ne_of_none t10 nsl
   have l4:=ne_of_none q10 nsl
   have l5:=ne_of_none w10 nsl
   unfold DA.mu
   simp only [List.nodup_cons,List.mem_cons,List.not_mem_nil,or_false,not_or]
   exact ⟨⟨f1.2.symm,f2.2.symm,f3.2.symm,f4.2.symm,fw.2.symm,fg.2.symm,fs.2.symm,fe.2.symm⟩,⟨npy,npt,nps,o1,g1,l1,e1⟩,⟨nyt,nys,o2,g2,l2,e2⟩,⟨nts,o3,g3,l3,e3⟩,⟨o4,g4,l4,e4⟩,⟨g5,l5,e5⟩,⟨ngs,e6⟩,e7,not_false,List.nodup_nil⟩
  all_goals
   intro b hb
   unfold DA.mu at hb
   simp only [List.mem_cons,List.not_mem_nil,or_false] at hb
  ·have mn:∀b,H b=none→mask H [x] b=none:=fun b e=>by
    cases e2:mask H [x] b with
    | none=>rfl
    | some o=>rw [(mask_same H [x]) _ _ e2] at e;cases e
   rcases hb with rfl | rfl | rfl | rfl | rfl | rfl | rfl | rfl | rfl
   ·exact mask_no (by simp)
   all_goals (apply mn)
   ·exact f1.1
   ·exact f2.1
   ·exact f3.1
   ·exact f4.1
   ·exact fw.1
   ·exact fg.1
   ·exact fs.1
   ·exact fe.1
  ·rcases hb with rfl | rfl | rfl | rfl | rfl | rfl | rfl | rfl | rfl
   ·exact .inl rfl
   ·exact .inr f1.1
   ·exact .inr f2.1
   ·exact .inr f3.1
   ·exact .inr f4.1
   ·exact .inr fw.1
   ·exact .inr fg.1
   ·exact .inr fs.1
   ·exact .inr fe.1
end
end K1
namespace L3
open PySem PySem.Spec PyProof.Rows L2
section
variable {P:Program} {w:World} {K:PySem.W.Frag} {mg:Str→Option Value} {base:Heap} {N:List Str} {qual:Str} {scope:Scope} {f:Addr} {cdv:Value} {A:Around} {outer:List Env} {s:Shared} {H:Hp} {E:XK}
theorem leave_on {E2:Value→Shared→Prop} {pins:List (Addr × Obj)} {σ:L2.St} {Hc H':Hp} {sc s':Shared} {ea:Addr} {cls a0:Value} {B:Heap} (I:Inv (cxE P w K mg base N qual scope f cdv A outer s H E) pins σ Hc sc) (T:Thrown P w (cxE P w K mg base N qual scope f cdv A outer s H E).stack Hc sc ea cls a0 H' B s') (hE:E cls none H'):
  wpAny (model P w) (A.deeper (envOfC qual scope s.heap.objs.size f cdv)) (leaving (envOfC qual scope s.heap.objs.size f cdv) (.ref ea)) (fun _ s2=>CXe P w outer H s E (.ref ea) s2) E2 s':=by
 refine wpAny_leaves_onW I.ok.frames rfl T.fl fun h2 x1 x2=>?_
 have T2:Un (frs (cxE P w K mg base N qual scope f cdv A outer s H E).stack) [] Hc H' sc.heap s'.heap:=T.un
 have oldB:∀b o,s.heap.get? b=some o→b∉frs outer→∃o',B.get? b=some o'∧(H b=none→o'=o):=fun b o e hb=>by
  obtain ⟨o1,z⟩:=I.base.there b o e (by simp [cxE,cxOf])
  obtain ⟨o',z',q⟩:=T.inB b o1 z (stk_new I e hb)
  refine ⟨o',z',fun n=>?_⟩
  have z2:=I.base.keep b o e n hb (by simp [cxE,cxOf])
  rw [z] at z2
  cases z2
  exact q (I.base.free b _ e n (by simp [cxE,cxOf]))
 refine ⟨ea,cls,a0,H',B,rfl,⟨x1,T.os.trans I.os,T.bare,T.ok,⟨fun b o e n hb hx'=>?_,fun b o e n hb hx'=>?_,fun b o e n hx'=>?_,fun b o e hx'=>?_,fun b xs q=>T.un.tups b xs (I.base.tups b xs q),fun b o u q=>T.un.frzs b o u (I.base.frzs b o u q),fun b ps q=>?_⟩,oldB⟩,hE⟩
 ·obtain ⟨o',z,q⟩:=oldB b o e hb
  rw [q n] at z
  exact x1.1 b o z
 ·obtain ⟨sl,z⟩:=I.base.slot b o e n hb hx'
  have hb':b∈frs (cxE P w K mg base N qual scope f cdv A outer s H E).stack:=by
   show b∈frs (_::outer)
   unfold frs
   rw [List.filterMap_cons]
   exact List.mem_cons_of_mem _ hb
  obtain ⟨sl2,z2⟩:=T2.slot b _ z (I.base.free b o e n hx') hb' (by simp)
  obtain ⟨_,ob,e',nf⟩:=T.fl.2.2.1.mem hb'
  rw [z2] at e'
  cases e'
  obtain ⟨sl',z'⟩:=x2 b _ z2 nf
  exact ⟨sl',z'⟩
 ·obtain ⟨o1,z⟩:=I.base.there b o e hx'
  exact T2.free b o1 z (I.base.free b o e n hx') (by simp)
 ·by_cases hb:b∈frs outer
  ·obtain ⟨_,ob,e',nf⟩:=x1.2.2.1.mem hb
   exact ⟨ob,e'⟩
  ·obtain ⟨o',z,_⟩:=oldB b o e hb
   exact ⟨o',x1.1 b o' z⟩
 ·obtain ⟨m1,e1⟩:=I.base.tbls b ps q
  obtain ⟨m2,e2⟩:=T.un.tbls b _ e1
  exact ⟨m1++m2,by rw [e2,Array.append_assoc]⟩
theorem pass_onDD:Passes (CXd P w) (cxD P w K mg base N qual scope f cdv A outer s H E) E:=by
 rintro pins σ Hc sc e s' I ⟨ea,cls,a0,H',B,od,rfl,T,L,hE⟩
 have h0:=leave_on (K:=K) (mg:=mg) (base:=base) (N:=N) (qual:=qual) (scope:=scope) (f:=f) (cdv:=cdv) (A:=A) (outer:=outer) (s:=s) (H:=H) (E:=fun c _ H''=>c=cls∧H''=H') (E2:=fun _ _=>False) (I.wish _) T ⟨rfl,rfl⟩
 refine wpAny_mono (any_calm calm_leaving h0) (fun _ s2 h2=>?_) fun _ _ z=>z.1.elim
 obtain ⟨⟨ea',cls',a0',H2,B2,e1,T2,e2,e3⟩,sd⟩:=h2
 cases e1
 subst e2 e3
 refine ⟨ea,cls',a0',H2,B2,od,rfl,T2,fun dx hd=>?_,hE⟩
 obtain ⟨o,ho,hd2⟩:=L dx hd
 obtain ⟨ob,hob,_⟩:=T2.fl.there
 exact ⟨ob,hob,(sd.dict ho hob).trans hd2⟩
end
end L3
namespace K1
open PySem L2 L3 M1
noncomputable def ltE (d:Str × Int × Str):PyData:=.tuple [.str d.1,.int d.2.1,.str d.2.2]
theorem ths_lts {H:Hp}:∀{rs:List Addr} {lds:List (Str × Int × Str)},Tups H rs (lds.map ltT)→(∀d∈lds,Th H (.str d.1) (.str d.1)∧Th H (.str d.2.2) (.str d.2.2))→Ths H (refs rs) (lds.map ltE)
 | [],[],_,_=>.nil
 | _::_,d::_,.cons h t,g=>.cons (.tup h (by show 3≤100;decide) (.cons (g d (.head _)).1 (.cons (.int _) (.cons (g d (.head _)).2 .nil)))) (ths_lts t fun e he=>g e (.tail _ he))
theorem lts_ths {H:Hp}:∀{lds:List (Str × Int × Str)} {vs:List L2.V},Ths H vs (lds.map ltE)→∃rs,vs=refs rs∧Tups H rs (lds.map ltT)
 | [],_,.nil=>⟨[],rfl,.nil⟩
 | d::lds,_,.cons (v:=v) (vs:=vs) h t=>by
  obtain ⟨a,xs,rfl,ha,_,hx⟩:=th_tup h
  obtain ⟨rs,rfl,tp⟩:=lts_ths t
  refine ⟨a::rs,rfl,.cons ?_ tp⟩
  cases hx with
  | cons h1 r1=>cases r1 with
   | cons h2 r2=>cases r2 with
    | cons h3 r3=>
     cases r3
     cases h1
     cases h2
     cases h3
     exact ha
theorem ltE_depth (lds:List (Str × Int × Str)):(PyData.list (lds.map ltE)).depth≤62:=by
 refine Nat.le_trans (Nat.succ_le_succ (depth_all (n:=1) fun y hy=>?_)) (by decide)
 obtain ⟨d,_,rfl⟩:=List.mem_map.mp hy
 exact Nat.le_refl _
theorem each_keep {H H':Hp} {M:List Addr} (k:∀b o,b∉M→H b=some o→H' b=some o) (nt:∀b∈M,∀v,H b≠some (.tup v)):∀{ls:List Addr} {sss:List (List Step)},Paired (StepsAt H) ls sss→(∀l∈ls,l∉M)→Paired (StepsAt H') ls sss
 | _,_,.nil,_=>.nil
 | _,_,.cons ⟨ts,h1,h2⟩ t,h=>.cons ⟨ts,k _ _ (h _ (.head _)) h1,Paired.mapP h2 fun _ _ e=>k _ _ (fun z=>nt _ z _ e) e⟩ (each_keep k nt t fun l hl=>h l (.tail _ hl))
noncomputable def LetsIn (hs:List (List Nat)) (lds:List (Str × Int × Str)):Prop:=∀d∈lds,d.1∈hs.map S∧d.2.2∈hs.map S
noncomputable def postS (s:DayS) (h g:Str):DayS:={s with lds:=s.lds++[(h,s.pr,g)],sss:=s.sss++[firstS (h,s.pr,g)]}
noncomputable def spPost (CD C CW CN NL:Addr):Sp:=fun vs H Q E=>∃(Hb:Hp) (x:Addr) (A:DA) (hs:List (List Nat)) (ds:List M1.Rd) (s:DayS) (h g:Str),vs=[.ref x,.str h,.str g]∧DayAt CD C CW CN Hb H x A hs ds s∧Good hs∧LetsIn hs s.lds∧s.lds.length≤40∧s.sss.length=s.lds.length∧(∀H,Th H (.str h) (.str h))∧(∀H,Th H (.str g) (.str g))∧
 (AreL (hD hs) ((s.lds++[(h,s.pr,g)]).map ltE)→∀H' A',Mv (A.mu x) (A'.mu x) H H'→DayAt CD C CW CN Hb H' x A' hs ds (postS s h g)→Q (.int (s.lds.length:Int)) H')∧
 (¬AreL (hD hs) ((s.lds++[(h,s.pr,g)]).map ltE)→∀dx H',H dx=none→Same H H'→H' dx=some (xdO dx [("number",numV (firstBad (hD hs) ((s.lds++[(h,s.pr,g)]).map ltE)))])→E (.ref NL) (some dx) H')
section
variable {P:Program} {w:World} {K:PySem.W.Frag} {mg:Str→Option Value} {base:Heap}
noncomputable abbrev sPost:Stmt:=inClass (top 42) 2
theorem scPost:FnScope ["self","house","goal","letter"] ["self","house","goal"] (defScope sPost):=⟨rfl,rfl,rfl,by decide+kernel,rfl,by decide+kernel,by decide+kernel⟩
theorem ok_post {CD C CW CN NL f f1 f2:Addr} {fd fd1 fd2:FuncData} (F:Fun K "post" "Day.post" sPost f fd) (B:Blt mg) (DC:DayC K CD) (Cl_Walk:Cls K C)
  (D_letters_of:Dn K mg "letters_of" sLof ["net","some"] f1 fd1) (G_letters_of:FnOk P w K mg base (CXd P w) 4 f1 fd1 ["net","some"] (spLof CN NL))
  (M_Walk_take_in:Mn K C "take_in" "Walk.take_in" sTake ["self","letter"] f2 fd2) (G_Walk_take_in:FnOk P w K mg base CX0 1 f2 fd2 ["self","letter"] (spTake C)):FnOk P w K mg base (CXd P w) 5 f fd ["self","house","goal"] (spPost CD C CW CN NL):=by
 refine okD F scPost (fun vs H Q E h=>?_) (fun cdv A outer s H vs Q E hr h=>?_)
 ·obtain ⟨Hb,x,A,hs,ds,s,h',g',rfl,_⟩:=h
  rfl
 ·obtain ⟨Hb,x,A,hs,ds,s,h',g',rfl,D,G,LI,l40,lss,th,tg,q,qE⟩:=h
  refine ⟨_,(pss_cons (ps_set (i:=3) scPost.nd rfl (Or.inl rfl) (pe_tup (pa_cons (pv 1) (pa_cons (pe_fld (pv 0) (by rfl)) (pa_cons (pv 2) pa_nil)))))
   (pss_cons (ps_fld (pv 0) (pe_call G_letters_of (hr.mono (by decide)) (by rfl) D_letters_of.at_ D_letters_of.fn.kp D_letters_of.bd .nil pass_onDD (pa_cons (pe_fld (pv 0) (by rfl)) (pa_cons (pe_op op_cat (pe_fld (pv 0) (by rfl)) (pe_lst (pa_cons (pv 3) pa_nil))) pa_nil))) rfl)
   (pss_cons (ps_expr (pe_meth (pe_fld (pv 0) (by rfl)) Cl_Walk M_Walk_take_in.me G_Walk_take_in (hr.mono (by decide)) M_Walk_take_in.bd .nil pass0 (pa_cons (pv 3) pa_nil)))
   (pss_one (ps_ret (pe_op op_sub (pe_callB call_len_seq (by rfl) B.len bt_len (pa_cons (pe_fld (pv 0) (by rfl)) pa_nil)) pe_int)))))),?_⟩
  refine ⟨_,rfl,_,rfl,x,CD,_,_,_,rfl,D.ins,DC.cl,DC.np,rfl,_,rfl,(by show 3≤sizeLine;decide),fun tp ntp=>?_⟩
  have u1:=upd_free (o:=.tup (ltT (h',s.pr,g'))) ntp
  have t1:upd H tp (.tup (ltT (h',s.pr,g'))) tp=some (.tup (ltT (h',s.pr,g'))):=upd_same
  show tSeq _ _ _ _ (upd H tp (.tup (ltT (h',s.pr,g'))))
  generalize upd H tp (.tup (ltT (h',s.pr,g')))=H1 at u1 t1 ⊢
  have D1:=D.same u1
  have lpr:A.prs.length=s.lds.length:=by have:=Paired.length D.pt;rw [List.length_map] at this;exact this
  refine ⟨_,rfl,x,CD,_,_,_,rfl,D1.ins,DC.cl,DC.nn,rfl,_,rfl,x,CD,_,_,_,rfl,D1.ins,DC.cl,DC.no,rfl,_,rfl,(by show 1≤sizeLine;decide),fun l1 n1=>?_⟩
  have u2:=upd_free (o:=.lst [V.ref tp]) n1
  have h2:upd H1 l1 (.lst [V.ref tp]) l1=some (.lst [V.ref tp]):=upd_same
  generalize upd H1 l1 (.lst [V.ref tp])=H2 at u2 h2 ⊢
  have D2:=D1.same u2
  refine ⟨A.pl,l1,_,_,rfl,rfl,D2.po,h2,(by rw [refs_len];show _+1≤sizeLine;exact Nat.le_of_lt (small1000 (by omega))),fun l2 n2=>?_⟩
  rw [refs_snoc]
  have u3:=upd_free (o:=.lst (refs (A.prs++[tp]))) n2
  have h3:upd H2 l2 (.lst (refs (A.prs++[tp]))) l2=some (.lst (refs (A.prs++[tp]))):=upd_same
  generalize upd H2 l2 (.lst (refs (A.prs++[tp])))=H3 at u3 h3 ⊢
  have D3:=D2.same u3
  have s03:=u1.trans (u2.trans u3)
  have tps:Tups H3 (A.prs++[tp]) ((s.lds++[(h',s.pr,g')]).map ltT):=by
   rw [List.map_append]
   exact Paired.snoc (F:=fun r d=>H3 r=some (.tup d)) (u3 _ _ (u2 _ _ t1)) D3.pt
  have thl:Th H3 (.ref l2) (.list ((s.lds++[(h',s.pr,g')]).map ltE)):=by
   refine .lst h3 (by rw [refs_len,List.length_append];show _+1≤100;omega) (ths_lts tps fun d hd=>?_)
   rcases List.mem_append.mp hd with z | z
   ·exact ⟨th_nmS G (LI d z).1,th_nmS G (LI d z).2⟩
   ·rw [List.mem_singleton.mp z]
    exact ⟨th _,tg _⟩
  refine ⟨A.n,A.a',A.b',hs,_,.ref l2,_,rfl,D3.net.same D3.sb,G,thl,ltE_depth _,fun ar l H4 nl s4 th4=>?_,fun na dx H4 nd s4 hd=>?_⟩
  ·obtain ⟨_,xs,el,hl4,_,hx4⟩:=th_lst th4
   cases el
   obtain ⟨prs,rfl,tp4⟩:=lts_ths hx4
   have D4:=D3.same s4
   obtain ⟨dy,hy4⟩:=D4.wy
   have s34:=s03.trans s4
   have nl0:H l=none:=by
    cases e:H l with
    | none=>rfl
    | some o=>rw [s03 _ _ e] at nl;cases nl
   have nd:=D.nd
   unfold DA.mu at nd
   simp only [List.nodup_cons,List.mem_cons,not_or] at nd
   obtain ⟨⟨x1,x2,x3,x4,x5,x6,x7,x8,x9⟩,⟨p1,p2,p3,p4,p5,p6,p7,p8⟩,⟨y1,y2,y3,y4,y5,y6,y7⟩,⟨t1',t2,t3,t4,t5,t6⟩,⟨q1,q2,q3,q4,q5⟩,⟨w1,w2,w3,w4⟩,⟨g1,g2,g3⟩,⟨sl1,sl2⟩,e1,ndl⟩:=nd
   refine ⟨_,rfl,x,CD,A.dx,_,rfl,D4.ins,DC.cl,DC.no,(by show 7 < 1000;decide),?_⟩
   have h5:upd H4 x (.ins CD A.dx (dayFs A.n l A.y A.sh A.wk A.se s.pr)) x=_:=upd_same
   have k5:∀b o,b≠x→H4 b=some o→upd H4 x (.ins CD A.dx (dayFs A.n l A.y A.sh A.wk A.se s.pr)) b=some o:=fun b o nb e=>(upd_ne nb).trans e
   have n5:∀b,upd H4 x (.ins CD A.dx (dayFs A.n l A.y A.sh A.wk A.se s.pr)) b=none→H4 b=none:=fun b e=>by
    have nb:b≠x:=fun z=>by rw [z,upd_same] at e;cases e
    rw [upd_ne nb] at e
    exact e
   show tSeq _ _ _ _ (upd H4 x (.ins CD A.dx (dayFs A.n l A.y A.sh A.wk A.se s.pr)))
   generalize upd H4 x (.ins CD A.dx (dayFs A.n l A.y A.sh A.wk A.se s.pr))=H5 at h5 k5 n5 ⊢
   have lg:(goalsS s.lds).length=s.lds.length:=List.length_map _
   have lls:A.ls.length=s.lds.length:=(Paired.length D.we).trans lss
   refine ⟨_,rfl,x,CD,_,_,_,rfl,h5,DC.cl,DC.nw,rfl,A.wk,A.dw,_,rfl,k5 _ _ (Ne.symm x5) D4.wi,rfl,_,rfl,A.wk,A.dw,A.n,A.g,A.sl,tp,goalsS s.lds,A.ls,(h',s.pr,g'),rfl,k5 _ _ (Ne.symm x5) D4.wi,k5 _ _ (Ne.symm x6) D4.wg,k5 _ _ (Ne.symm x7) D4.ws,g1,k5 _ _ (L2.ne_of (s4 _ _ (u3 _ _ (u2 _ _ t1))) D4.ins (by intro z;cases z)) (s4 _ _ (u3 _ _ (u2 _ _ t1))),(by omega),(by omega),fun H6 l6 t6' k6 hg6 hs6 nl6 nt6 hl6 ht6=>?_⟩
   have kk:∀b o,b∉[x,A.g,A.sl]→H4 b=some o→H6 b=some o:=fun b o nb e=>by
    simp only [List.mem_cons,List.not_mem_nil,or_false,not_or] at nb
    exact k6 b o nb.2.1 nb.2.2 (k5 b o nb.1 e)
   have k2:∀{b o},b≠x→b≠A.g→b≠A.sl→H4 b=some o→H6 b=some o:=fun {b o} n1 n2 n3 e=>kk b o (by simp [n1,n2,n3]) e
   have kt:∀b v,H4 b=some (.tup v)→H6 b=some (.tup v):=fun b v e=>k2 (L2.ne_of e D4.ins (by intro z;cases z)) (L2.ne_of e D4.wg (by intro z;cases z)) (L2.ne_of e D4.ws (by intro z;cases z)) e
   have nm:∀b o,H4 b=some o→b≠l6:=fun b o e z=>by rw [z,n5 _ nl6] at e;cases e
   have lx:l≠x:=Ne.symm (ne_of_none D3.ins nl)
   have lgx:l≠A.g:=Ne.symm (ne_of_none D3.wg nl)
   have lsx:l≠A.sl:=Ne.symm (ne_of_none D3.ws nl)
   have lsl:l∉A.ls:=fun z=>by
    obtain ⟨i,hi,ei⟩:=List.getElem_of_mem z
    obtain ⟨_,_,ts,e,_⟩:=Paired.get D3.we (List.getElem?_eq_some_iff.mpr ⟨hi,ei⟩)
    rw [nl] at e;cases e
   have h6x:=k6 x _ x6 x7 h5
   have h6l:=k2 lx lgx lsx hl4
   have lpr':prs.length=s.lds.length+1:=by
    have:=Paired.length tp4
    rw [List.length_map,List.length_append] at this
    exact this
   refine ⟨_,rfl,x,CD,_,_,_,rfl,h6x,DC.cl,DC.no,rfl,l,_,rfl,.inl (SqL.of h6l),_,_,rfl,rfl,?_⟩
   rw [refs_len,lpr']
   show Q (.int (((s.lds.length+1:Nat):Int) - 1)) H6
   rw [show (((s.lds.length+1:Nat):Int) - 1)=(s.lds.length:Int) by omega]
   have fr0:∀b o,Hb b=some o→b≠x∧b≠A.g∧b≠A.sl:=fun b o e=>by
    refine ⟨fun z=>?_,fun z=>?_,fun z=>?_⟩
    ·rw [z,D.fr x (by unfold DA.mu;simp)] at e;cases e
    ·rw [z,D.fr A.g (by unfold DA.mu;simp)] at e;cases e
    ·rw [z,D.fr A.sl (by unfold DA.mu;simp)] at e;cases e
   have nl60:H l6=none:=by
    cases e:H l6 with
    | none=>rfl
    | some o=>exact absurd rfl (nm _ _ (s34 _ _ e))
   refine q ar H6 {A with pl:=l,prs:=prs,ls:=A.ls++[l6]} ⟨fun b o nb e=>?_,fun b hb=>?_⟩ ⟨fun b o e=>?_,D.net,D.rds,h6x,h6l,Paired.mapP tp4 fun _ _ e=>kt _ _ e,⟨dy,k2 (Ne.symm x2) y4 y5 hy4⟩,k2 (Ne.symm x3) t3 t4 D4.wt,k2 (Ne.symm x4) q2 q3 D4.sh,k2 (Ne.symm x5) w1 w2 D4.wi,?_,hs6,?_,k2 (Ne.symm x8) (Ne.symm g2) (Ne.symm sl1) D4.se,Paired.mapP D4.sp fun _ _ ⟨c,h1,h2⟩=>⟨c,kt _ _ h1,kt _ _ h2⟩,?_,fun b hb=>?_⟩
   ·unfold DA.mu at nb
    simp only [List.mem_cons,not_or] at nb
    exact k2 nb.1 nb.2.2.2.2.2.2.1 nb.2.2.2.2.2.2.2.1 (s34 _ _ e)
   ·unfold DA.mu at hb ⊢
    simp only [List.mem_cons,List.mem_append,List.not_mem_nil,or_false] at hb ⊢
    rcases hb with h | h | h | h | h | h | h | h | h | h | h
    ·exact .inl (.inl h)
    ·exact .inr (by rw [h];exact nl0)
    ·exact .inl (by simp [h])
    ·exact .inl (by simp [h])
    ·exact .inl (by simp [h])
    ·exact .inl (by simp [h])
    ·exact .inl (by simp [h])
    ·exact .inl (by simp [h])
    ·exact .inl (by simp [h])
    ·exact .inl (by simp [h])
    ·exact .inr (by rw [h];exact nl60)
   ·obtain ⟨z1,z2,z3⟩:=fr0 b o e
    exact k2 z1 z2 z3 (s34 _ _ (D.sb _ _ e))
   ·rw [hg6]
    show _=some (HO.lst ((goalsS (s.lds++[(h',s.pr,g')])).map V.str))
    unfold goalsS
    simp only [List.map_append,List.map_cons,List.map_nil]
   ·refine Paired.snoc ⟨[t6'],hl6,.cons ht6 .nil⟩ (each_keep kk (fun b hb v e=>?_) D4.we fun l' hl' z=>?_)
    ·simp only [List.mem_cons,List.not_mem_nil,or_false] at hb
     rcases hb with rfl | rfl | rfl
     ·rw [D4.ins] at e;cases e
     ·rw [D4.wg] at e;cases e
     ·rw [D4.ws] at e;cases e
    ·simp only [List.mem_cons,List.not_mem_nil,or_false] at z
     rcases z with rfl | rfl | rfl
     ·exact x9 hl'
     ·exact g3 hl'
     ·exact sl2 hl'
   ·unfold DA.mu
    simp only [List.nodup_cons,List.mem_cons,List.mem_append,List.not_mem_nil,or_false,not_or]
    obtain ⟨dy3,hy3⟩:=D3.wy
    refine ⟨⟨Ne.symm lx,x2,x3,x4,x5,x6,x7,x8,x9,nm _ _ D4.ins⟩,⟨Ne.symm (ne_of_none hy3 nl),Ne.symm (ne_of_none D3.wt nl),Ne.symm (ne_of_none D3.sh nl),Ne.symm (ne_of_none D3.wi nl),lgx,lsx,Ne.symm (ne_of_none D3.se nl),lsl,nm _ _ hl4⟩,⟨y1,y2,y3,y4,y5,y6,y7,nm _ _ hy4⟩,⟨t1',t2,t3,t4,t5,t6,nm _ _ D4.wt⟩,⟨q1,q2,q3,q4,q5,nm _ _ D4.sh⟩,⟨w1,w2,w3,w4,nm _ _ D4.wi⟩,⟨g1,g2,g3,nm _ _ D4.wg⟩,⟨sl1,sl2,nm _ _ D4.ws⟩,⟨e1,nm _ _ D4.se⟩,?_⟩
    rw [List.nodup_append]
    refine ⟨ndl,List.nodup_cons.mpr ⟨List.not_mem_nil,List.nodup_nil⟩,fun a ha b hb=>?_⟩
    rw [List.mem_singleton] at hb
    subst hb
    obtain ⟨i,hi,ei⟩:=List.getElem_of_mem ha
    obtain ⟨_,_,ts,e,_⟩:=Paired.get D4.we (List.getElem?_eq_some_iff.mpr ⟨hi,ei⟩)
    exact nm _ _ e
   ·unfold DA.mu at hb
    simp only [List.mem_cons,List.mem_append,List.not_mem_nil,or_false] at hb
    have old:b∈A.mu x→Hb b=none:=D.fr b
    have new:H b=none→Hb b=none:=fun e=>by
     cases e2:Hb b with
     | none=>rfl
     | some o=>rw [D.sb _ _ e2] at e;cases e
    unfold DA.mu at old
    simp only [List.mem_cons] at old
    rcases hb with h | h | h | h | h | h | h | h | h | h | h
    ·exact old (by simp [h])
    ·exact new (by rw [h];exact nl0)
    ·exact old (by simp [h])
    ·exact old (by simp [h])
    ·exact old (by simp [h])
    ·exact old (by simp [h])
    ·exact old (by simp [h])
    ·exact old (by simp [h])
    ·exact old (by simp [h])
    ·exact old (by simp [h])
    ·exact new (by rw [h];exact nl60)
  ·have s34:=s03.trans s4
   have nd0:H dx=none:=by
    cases e:H dx with
    | none=>rfl
    | some o=>rw [s03 _ _ e] at nd;cases nd
   exact qE na dx H4 nd0 s34 hd
end
open PySem L2 L3 M1
noncomputable def goD (s:DayS):List Nat:=(List.range s.lds.length).filter fun n=>decide ((lastAt s.sss n).house≠gN (goalsS s.lds) n)
noncomputable def hwD (s:DayS) (n:Nat):Bool:=(wayOf s.kvs (lastAt s.sss n).house (gN (goalsS s.lds) n)).isSome
noncomputable def bagsD (ds:List M1.Rd) (s:DayS):List (Kt × List Nat):=(bagsN ds (dueN s.sss) (rdN s.kvs (goalsS s.lds) s.sss) s.pr ((goD s).filter (hwD s))).filter fun b=>decide (b.1.2∉s.shs)
noncomputable def passS (hs:List (List Nat)) (ds:List M1.Rd) (s:DayS):DayS:={s with pr:=s.pr+1,sss:=sendAll hs ds (bagsD ds s) s.sss,snt:=s.snt++bagsD ds s}
structure DayOk (hs:List (List Nat)) (ds:List M1.Rd) (k:Nat) (s:DayS):Prop where
 len:s.sss.length=s.lds.length
 l40:s.lds.length≤40
 d40:ds.length≤40
 lets:LetsIn hs s.lds
 tab:TabOk s.kvs ds.length
 ne:∀ss∈s.sss,ss≠[]
 hou:∀ss∈s.sss,(lastS ss).house∈hs.map S
 few:∀ss∈s.sss,ss.length≤k+1
 snl:s.snt.length≤50 * k
theorem DayOk.last {hs:List (List Nat)} {ds:List M1.Rd} {k:Nat} {s:DayS} (O:DayOk hs ds k s) {n:Nat} (h:n < s.lds.length):∃i,s.sss[n]?=some (i++[lastAt s.sss n])∧(lastAt s.sss n).house∈hs.map S:=by
 have e1:s.sss[n]?=some (s.sss.getD n []):=gd_some (by rw [O.len];exact h)
 have hm:=List.mem_of_getElem? e1
 obtain ⟨i,ei⟩:=last_split (O.ne _ hm)
 refine ⟨i,?_,O.hou _ hm⟩
 rw [e1]
 congr 1
theorem goal_at {s:DayS} {n:Nat} (h:n < s.lds.length):(goalsS s.lds)[n]?=some (gN (goalsS s.lds) n):=gd_some (by unfold goalsS;rw [List.length_map];exact h)
theorem DayOk.goal {hs:List (List Nat)} {ds:List M1.Rd} {k:Nat} {s:DayS} (O:DayOk hs ds k s) {n:Nat} (h:n < s.lds.length):gN (goalsS s.lds) n∈hs.map S:=by
 have e:=goal_at h
 unfold goalsS at e
 rw [List.getElem?_map] at e
 obtain ⟨d,hd,e2⟩:=Option.map_eq_some_iff.mp e
 have:=(O.lets d (List.mem_of_getElem? hd)).2
 unfold goalsS
 rw [←e2]
 exact this
theorem mem_goD {s:DayS} {n:Nat}:n∈goD s↔n < s.lds.length∧(lastAt s.sss n).house≠gN (goalsS s.lds) n:=by
 unfold goD
 rw [List.mem_filter,List.mem_range,decide_eq_true_eq]
theorem DayOk.on {hs:List (List Nat)} {ds:List M1.Rd} {k:Nat} {s:DayS} (O:DayOk hs ds k s) {n:Nat} (h:n∈goD s):OnOrNot (hwD s) hs s.kvs (goalsS s.lds) s.sss (dueN s.sss) (rdN s.kvs (goalsS s.lds) s.sss) n:=by
 obtain ⟨hn,hh⟩:=mem_goD.mp h
 obtain ⟨i,ei,hm⟩:=O.last hn
 rcases O.tab.get (lastAt s.sss n).house (gN (goalsS s.lds) n) with ⟨v,w⟩ | ⟨r,v,w,_⟩
 ·exact .inr ⟨by unfold hwD;rw [w];rfl,i,_,_,ei,rfl,goal_at hn,hm,O.goal hn,hh,v⟩
 ·exact .inl ⟨by unfold hwD;rw [w];rfl,i,_,_,ei,rfl,goal_at hn,hm,O.goal hn,hh,by unfold rdN;rw [w];exact v⟩
theorem DayOk.rd {hs:List (List Nat)} {ds:List M1.Rd} {k:Nat} {s:DayS} (O:DayOk hs ds k s) {n:Nat} (h:n∈(goD s).filter (hwD s)):rdN s.kvs (goalsS s.lds) s.sss n < ds.length:=by
 obtain ⟨_,h2⟩:=List.mem_filter.mp h
 unfold hwD at h2
 rcases O.tab.get (lastAt s.sss n).house (gN (goalsS s.lds) n) with ⟨v,w⟩ | ⟨r,v,w,hr⟩
 ·rw [w] at h2;cases h2
 ·unfold rdN
  rw [w]
  exact hr
theorem tlc_sel {α:Type} {F:Addr→α→Prop} {wi:TI} {cs:List (Option Nat)} {tt:TT} {σ rest:L2.St} {H H1:Hp} {Q:VK} {J:It} {as:List Addr} {Bs:List α} (hw:∀R:It→Hp→Prop,R J H1→wi σ H R) (hcs:caps cs σ=none::rest) (wk:Wk J H1 (refs as)) (hl:as.length < sizeLine) (pr:Paired F as Bs) (q:α→Bool)
  (test:∀(i:Nat) (a:Addr) (b:α) (H2:Hp) (R:Bool→Hp→Prop),as[i]?=some a→Bs[i]?=some b→Same H1 H2→R (q b) H2→tt (some (.ref a)::rest) H2 R)
  (fin:∀(D:Addr) (H':Hp) (as':List Addr),H1 D=none→H' D=some (.lst (refs as'))→Paired F as' (Bs.filter q)→Same H1 H'→Q (.ref D) H'):tLC wi cs (gName 0) tt (tVar 0) σ H Q:=by
 have lab:=Paired.length pr
 have lr:=refs_len as
 refine hw _ fun D hD=>?_
 refine ⟨fun i m ys σ' H'=>m=as.length - i∧i≤as.length∧(∃as',ys=refs as'∧as'.length≤i∧Paired F as' ((Bs.take i).filter q))∧(∃o,σ'=o::rest)∧Same H1 H'∧H' D=some (.lst ys),⟨as.length,by simp,Nat.zero_le _,⟨[],rfl,Nat.le_refl _,.nil⟩,⟨none,by rw [hcs]⟩,fun b o e=>?_,upd_same⟩,?_⟩
 ·rw [upd_ne (ne_of_none e hD)]
  exact e
 ·rintro i m ys σ' H' ⟨rfl,hi,⟨as',rfl,la,pa⟩,⟨o,rfl⟩,sm,hHD⟩
  obtain ⟨w1,w2,w3⟩:=wk H' sm
  refine ⟨hHD,by rw [refs_len];omega,?_⟩
  by_cases hlt:i < as.length
  ·refine .inr ⟨w2 i (by omega),fun x H2 y=>?_⟩
   obtain ⟨rfl,ex⟩:=w3 i x H2 (by omega) y
   unfold refs at ex
   rw [List.getElem?_map] at ex
   obtain ⟨a,ea,rfl⟩:=Option.map_eq_some_iff.mp ex
   obtain ⟨b,eb,hb⟩:=Paired.get pr ea
   have tk:Bs.take (i+1)=Bs.take i++[b]:=by rw [List.take_add_one,eb];rfl
   show tt (some (.ref a)::rest) H2 _
   refine test i a b H2 _ ea eb sm ?_
   cases hq:q b with
   | true=>
    refine iteT ⟨_,rfl,hHD,as.length - (i+1),by omega,rfl,hlt,⟨as'++[a],refs_snoc as' a,by rw [List.length_append];show as'.length+1≤i+1;omega,?_⟩,⟨_,rfl⟩,fun c ob e=>?_,upd_same⟩
    ·rw [tk,List.filter_append,List.filter_cons,if_pos hq,List.filter_nil]
     exact Paired.snoc hb pa
    ·rw [upd_ne (ne_of_none e hD)]
     exact sm _ _ e
   | false=>
    refine iteF ⟨as.length - (i+1),by omega,rfl,hlt,⟨as',rfl,by omega,?_⟩,⟨_,rfl⟩,sm,hHD⟩
    rw [tk,List.filter_append,List.filter_cons,if_neg (by rw [hq];decide),List.filter_nil,List.append_nil]
    exact pa
  ·have e:i=as.length:=by omega
   subst e
   rw [lab,List.take_length] at pa
   rw [lr] at w1
   exact .inl ⟨w1,fin D H' as' hD hHD pa sm⟩
theorem shut_in (l:List Nat) (r:Nat):(!(valV (shV l) (Sum.inl (r:Int):Key)).isSome)=decide (r∉l):=by
 induction l with
 | nil=>rfl
 | cons a l ih=>
  show (!(valV ((Sum.inl (a:Int),V.bl true)::shV l) (Sum.inl (r:Int):Key)).isSome)=_
  by_cases h:a=r
  ·subst h
   rw [valV_pos rfl]
   simp
  ·rw [valV_neg (fun z=>h (by have:=Sum.inl.inj z;omega)),ih]
   simp [Ne.symm h]
theorem one_bag {hs:List (List Nat)} {ds:List M1.Rd} {k:Nat} {s:DayS} (O:DayOk hs ds k s) {bs:List (Kt × List Nat)} (h:bs.Sublist (bagsD ds s)) (i:Nat):(bs.filter fun b=>decide (i∈b.2)).length≤1:=by
 have h1:(bs.filter fun b=>decide (i∈b.2)).Sublist ((bagsN ds (dueN s.sss) (rdN s.kvs (goalsS s.lds) s.sss) s.pr ((goD s).filter (hwD s))).filter fun b=>decide (i∈b.2)):=(h.trans List.filter_sublist).filter _
 have h2:=h1.length_le
 rw [bags_of (fun n hn=>O.rd hn) i] at h2
 refine Nat.le_trans h2 ?_
 split <;> simp
theorem send_few {hs:List (List Nat)} {ds:List M1.Rd} {k:Nat} {s:DayS} (O:DayOk hs ds k s) {bs:List (Kt × List Nat)} (h:bs.Sublist (bagsD ds s)):∀ss∈sendAll hs ds bs s.sss,ss.length≤k+2:=fun ss hss=>by
 obtain ⟨i,hi⟩:=List.mem_iff_getElem?.mp hss
 rw [send_get] at hi
 obtain ⟨s0,e0,rfl⟩:=Option.map_eq_some_iff.mp hi
 have:=O.few s0 (List.mem_of_getElem? e0)
 have:=one_bag O h i
 rw [List.length_append,List.length_map]
 omega
noncomputable def spPass (K:PySem.W.Frag) (CD C CW CN:Addr):Sp:=fun vs H Q _=>∃(Hb:Hp) (x:Addr) (A:DA) (hs:List (List Nat)) (ds:List M1.Rd) (s:DayS) (k:Nat),vs=[.ref x]∧DayAt CD C CW CN Hb H x A hs ds s∧Good hs∧DayOk hs ds k s∧k≤98∧
 ∀H' A' bl bas,Mv (A.mu x) (A'.mu x) H H'→DayAt CD C CW CN Hb H' x A' hs ds (passS hs ds s)→H bl=none→bl∉A'.mu x→H' bl=some (.lst (refs bas))→Paired (BagAt H') bas (bagsD ds s)→Q (.ref bl) H'
section
variable {P:Program} {w:World} {K:PySem.W.Frag} {mg:Str→Option Value} {base:Heap}
noncomputable abbrev sPass:Stmt:=inClass (top 42) 7
theorem scPass:FnScope ["self","going","ready","bags","bag"] ["self"] (defScope sPass):=⟨rfl,rfl,rfl,by decide+kernel,rfl,by decide+kernel,by decide+kernel⟩
theorem ok_pass {CD C CW CN f f1 f2 f3:Addr} {fd fd1 fd2 fd3:FuncData} (F:Fun K "pass_turn" "Day.pass_turn" sPass f fd) (B:Blt mg) (DC:DayC K CD) (Cl_Walk:Cls K C)
  (M_Walk_home_turn:Mn K C "home_turn" "Walk.home_turn" sHomeT ["self","number"] f1 fd1) (G_Walk_home_turn:FnOk P w K mg base CX0 2 f1 fd1 ["self","number"] (spHomeT C))
  (D_bags_at:Dn K mg "bags_at" sBa ["net","walk","going","ways","turn"] f2 fd2) (G_bags_at:FnOk P w K mg base CX0 5 f2 fd2 ["net","walk","going","ways","turn"] (spBaF K C CW CN))
  (M_Walk_send:Mn K C "send" "Walk.send" sSend ["self","bag"] f3 fd3) (G_Walk_send:FnOk P w K mg base CX0 2 f3 fd3 ["self","bag"] (spSend C CN)):FnOk P w K mg base CX0 6 f fd ["self"] (spPass K CD C CW CN):=by
 refine F.ok scPass (fun vs H Q E h=>?_) (fun cdv A outer s H vs Q E hr h=>?_)
 ·obtain ⟨Hb,x,A,hs,ds,s,k,rfl,_⟩:=h
  rfl
 ·obtain ⟨Hb,x,A,hs,ds,s,k,rfl,D,G,O,k98,q⟩:=h
  refine ⟨_,(pss_cons (ps_setLC (i:=1) scPass.nd rfl rfl rfl (N':=["number","self"]) (cs:=[none,some 0]) rfl (pi_range1 rfl B.range (pa_cons (pe_callB call_len_seq (by rfl) B.len bt_len (pa_cons (pe_fld (pv 0) (by rfl)) pa_nil)) pa_nil)) rfl (by decide+kernel) rfl (by decide+kernel) (sub_of (List.forall_mem_cons.mpr ⟨rfl,(fun p hp=>absurd hp (List.not_mem_nil))⟩)) rfl
    (.own (.cap rfl (.inl rfl) (.inl rfl) rfl .nil))
    (fun C s3 H3 fp pn=>⟨(pg_name (i:=0) (by show (["number","self"]:List Str).Nodup;decide+kernel) rfl (.inl rfl)),(pif_one (pt_cmpR op_isN (pe_meth (pe_fldK (K:=K) rfl (pv 1) (by rfl)) Cl_Walk M_Walk_home_turn.me G_Walk_home_turn (hr.mono (by decide)) M_Walk_home_turn.bd .nil pass0 (pa_cons (pv 0) pa_nil)) pe_non (nomark _))),(pv 0)⟩))
   (pss_cons (ps_set (i:=2) scPass.nd rfl (Or.inl rfl) (pe_call G_bags_at (hr.mono (by decide)) (by rfl) D_bags_at.at_ D_bags_at.fn.kp D_bags_at.bd .nil pass0 (pa_cons (pe_fld (pv 0) (by rfl)) (pa_cons (pe_fld (pv 0) (by rfl)) (pa_cons (pv 1) (pa_cons (pe_fld (pv 0) (by rfl)) (pa_cons (pe_fld (pv 0) (by rfl)) pa_nil)))))))
   (pss_cons (ps_setLC (i:=3) scPass.nd rfl rfl rfl (N':=["bag","self"]) (cs:=[none,some 0]) rfl (pi_list (pv 2)) rfl (by decide+kernel) rfl (by decide+kernel) (sub_of (List.forall_mem_cons.mpr ⟨rfl,(fun p hp=>absurd hp (List.not_mem_nil))⟩)) rfl
    (.own (.cap rfl (.inl rfl) (.inl rfl) rfl .nil))
    (fun C s3 H3 fp pn=>⟨(pg_name (i:=0) (by show (["bag","self"]:List Str).Nodup;decide+kernel) rfl (.inl rfl)),(pif_one (pt_cmp (pc_dnotin (hu_of hr) (pe_ix (ix_tupK (K:=K) rfl) (pv 0) pe_int (fun _ _=>rfl)) (pe_fldK (K:=K) rfl (pv 1) (by rfl))))),(pv 0)⟩))
   (pss_cons (ps_for PassesOwn.never rfl (pi_list (pv 3)) (pg_name (i:=4) scPass.nd rfl (Or.inl rfl))
    (pss_one (ps_expr (pe_meth (pe_fld (pv 0) (by rfl)) Cl_Walk M_Walk_send.me G_Walk_send (hr.mono (by decide)) M_Walk_send.bd .nil pass0 (pa_cons (pv 4) pa_nil)))))
   (pss_cons (ps_expr (pe_bm PySem.F.plainAttrs_list PySem.F.slot_list_extend PySem.F.type_list_extend mt_extend (pe_fld (pv 0) (by rfl)) (pa_cons (pv 3) pa_nil)))
   (pss_cons (ps_fld (pv 0) (pe_op op_add (pe_fld (pv 0) (by rfl)) pe_int) rfl)
   (pss_one (ps_ret (pv 3))))))))),?_⟩
  have lpr:A.prs.length=s.lds.length:=by have:=Paired.length D.pt;rw [List.length_map] at this;exact this
  have l40:=O.l40
  dsimp only [tSeq,tAsg]
  refine tlc_fi (J:=Itr 0 s.lds.length) (H1:=H) (xs:=(List.range s.lds.length).map fun i:Nat=>V.int (0+i)) (rest:=[some (.ref x)]) (fun R h=>⟨_,rfl,x,CD,_,_,_,rfl,D.ins,DC.cl,DC.no,rfl,A.pl,_,rfl,.inl (SqL.of D.po),_,rfl,?_,?_,?_⟩) rfl (wk_range 0 s.lds.length) (small1000 (by simp;omega)) (fun n=>decide ((lastAt s.sss n).house≠gN (goalsS s.lds) n)) (fun n=>.int (n:Int)) (fun n v H2 R ev sm k=>?_) (fun n v H2 R ev _ sm k=>?_) (fun D1 H1 nD hD s1=>?_)
  ·rw [refs_len];omega
  ·rw [refs_len];omega
  ·rw [refs_len,lpr,Int.toNat_natCast];exact h
  ·have hn:n < s.lds.length∧v=.int (n:Int):=by
    rw [List.getElem?_map] at ev
    obtain ⟨i,ei,rfl⟩:=Option.map_eq_some_iff.mp ev
    obtain ⟨h1,h2⟩:=List.getElem?_eq_some_iff.mp ei
    rw [List.getElem_range] at h2
    subst h2
    rw [List.length_range] at h1
    exact ⟨h1,by rw [Int.zero_add]⟩
   obtain ⟨hn,rfl⟩:=hn
   obtain ⟨i,ei,_⟩:=O.last hn
   have D2:=D.same sm
   refine ⟨_,rfl,x,CD,_,_,_,rfl,D2.ins,DC.cl,DC.nw,rfl,A.wk,A.dw,_,rfl,D2.wi,rfl,_,rfl,A.wk,A.n,A.g,A.sl,_,_,_,n,i,_,_,rfl,D2.walk,ei,goal_at hn,rfl,_,rfl,?_⟩
   have:=k H2 (Same.refl _)
   unfold homeV
   by_cases z:(lastAt s.sss n).house=gN (goalsS s.lds) n
   ·rw [if_pos z]
    rw [decide_eq_false (fun w=>w z)] at this
    exact this
   ·rw [if_neg z]
    rw [decide_eq_true z] at this
    exact this
  ·obtain rfl:v=.int (n:Int):=by
    rw [List.getElem?_map] at ev
    obtain ⟨i,ei,rfl⟩:=Option.map_eq_some_iff.mp ev
    obtain ⟨h1,h2⟩:=List.getElem?_eq_some_iff.mp ei
    rw [List.getElem_range] at h2
    subst h2
    rw [Int.zero_add]
   exact ⟨_,rfl,k H2 (Same.refl _)⟩
  have lx:((List.range s.lds.length).map fun i:Nat=>V.int (0+i)).length=s.lds.length:=by simp
  rw [lx] at hD
  have hD1:H1 D1=some (.lst (natV (goD s))):=hD
  have Da:=D.same s1
  have gl:(goD s).length≤40:=by
   unfold goD
   refine Nat.le_trans (List.length_filter_le _ _) ?_
   rw [List.length_range]
   exact l40
  have gnd:(goD s).Nodup:=List.nodup_range.filter _
  refine ⟨_,rfl,x,CD,_,_,_,rfl,Da.ins,DC.cl,DC.nn,rfl,_,rfl,x,CD,_,_,_,rfl,Da.ins,DC.cl,DC.nw,rfl,_,rfl,_,rfl,x,CD,_,_,_,rfl,Da.ins,DC.cl,DC.ny,rfl,_,rfl,x,CD,_,_,_,rfl,Da.ins,DC.cl,DC.np,rfl,A.wk,A.n,A.g,A.sl,D1,A.y,A.t,A.a',A.b',_,A.ls,A.rs,s.sss,hs,ds,s.kvs,goD s,hwD s,_,dueN s.sss,rdN s.kvs (goalsS s.lds) s.sss,s.pr,rfl,rfl,Da.walk,SqL.of hD1,Da.ways,Da.rds.same Da.sb,G,by omega,gnd,fun n hn=>O.on hn,fun n hn=>O.rd hn,fun bl H2 as rl nbl s2 hbl bags up mem=>?_⟩
  obtain rfl:=roads_eq (fun n hn=>O.rd hn) up mem
  obtain ⟨Bs,eB⟩:∃Bs,Bs=bagsN ds (dueN s.sss) (rdN s.kvs (goalsS s.lds) s.sss) s.pr ((goD s).filter (hwD s)):=⟨_,rfl⟩
  have bags:Paired (BagAt H2) as Bs:=by rw [eB];exact bags
  have Db:=Da.same s2
  have lB:Bs.length≤40:=by
   rw [eB]
   unfold bagsN roadsAt
   rw [List.length_map]
   refine Nat.le_trans (List.length_filter_le _ _) ?_
   rw [List.length_range]
   exact O.d40
  have las:=Paired.length bags
  refine to_nx ?_
  dsimp only
  refine seq_asg ?_
  refine tlc_sel (F:=BagAt H2) (J:=Itl K bl) (H1:=H2) (as:=as) (Bs:=Bs) (rest:=[some (.ref x)]) (fun R h=>⟨_,rfl,bl,rfl,⟨_,SqL.of hbl⟩,h⟩) rfl (wk_list (SqL.of hbl)) (small1000 (by omega)) bags (fun b=>decide (b.1.2∉s.shs)) (fun i a b H3 R ea eb sm hR=>?_) (fun D3 H3 as' nD3 hD3 bags3 s3=>?_)
  ·obtain ⟨b2,eb2,c,hb1,hb2⟩:=Paired.get bags ea
   rw [eb] at eb2
   cases eb2
   have D3:=Db.same sm
   refine ⟨_,rfl,a,_,_,_,rfl,rfl,SqT.of (sm _ _ hb1),rfl,_,rfl,x,CD,_,_,_,rfl,D3.ins,DC.cl,DC.nh,rfl,A.sh,_,rfl,DGet.k (k:=Sum.inl (b.1.2:Int)) D3.sh,_,rfl,?_⟩
   rw [shut_in]
   exact hR
  have eB2:Bs.filter (fun b=>decide (b.1.2∉s.shs))=bagsD ds s:=by rw [eB];rfl
  rw [eB2] at bags3
  have Dc:=Db.same s3
  have lB2:(bagsD ds s).length≤40:=by rw [←eB2];exact Nat.le_trans (List.length_filter_le _ _) lB
  have la':=Paired.length bags3
  have bags3:=Paired.mapP bags3 fun a b h=>h.same s3
  have bin:∀b∈bagsD ds s,b.1.2 < ds.length∧b.2.Nodup∧∀i∈b.2,i < s.sss.length:=fun b hb=>by
   unfold bagsD bagsN at hb
   obtain ⟨r,hr,rb⟩:=List.mem_map.mp (List.mem_filter.mp hb).1
   subst rb
   refine ⟨?_,bag_nd (gnd.filter _) r,fun i hi=>?_⟩
   ·unfold roadsAt at hr
    exact List.mem_range.mp (List.mem_filter.mp hr).1
   ·have:=(mem_goD.mp (List.mem_filter.mp (bag_mem hi).1).1).1
    rw [O.len]
    exact this
  have nd:=D.nd
  unfold DA.mu at nd
  simp only [List.nodup_cons,List.mem_cons,not_or] at nd
  obtain ⟨⟨x1,x2,x3,x4,x5,x6,x7,x8,x9⟩,⟨p1,p2,p3,p4,p5,p6,p7,p8⟩,⟨y1,y2,y3,y4,y5,y6,y7⟩,⟨t1',t2,t3,t4,t5,t6⟩,⟨q1,q2,q3,q4,q5⟩,⟨w1,w2,w3,w4⟩,⟨g1,g2,g3⟩,⟨sl1,sl2⟩,e1,ndl⟩:=nd
  have frl:∀l∈A.ls,Hb l=none:=fun l hl=>D.fr l (by unfold DA.mu;simp [hl])
  have lst3:∀{Hz:Hp} {sz:List (List Step)},Paired (StepsAt Hz) A.ls sz→∀l∈A.ls,∃ts,Hz l=some (.lst ts):=fun {Hz sz} pz l hl=>by
   obtain ⟨i,hi,ei⟩:=List.getElem_of_mem hl
   obtain ⟨_,_,ts,e,_⟩:=Paired.get pz (List.getElem?_eq_some_iff.mpr ⟨hi,ei⟩)
   exact ⟨_,e⟩
  have nD3l:D3∉A.ls:=fun z=>by
   obtain ⟨ts,e⟩:=lst3 Db.we _ z
   rw [nD3] at e;cases e
  refine ⟨_,rfl,D3,rfl,⟨_,SqL.of hD3⟩,?_⟩
  refine for_list (K:=K) (a:=D3) (xs:=refs as') (fun j σ Hj=>∃v4,σ=[some (.ref x),some (.ref D1),some (.ref bl),some (.ref D3),v4]∧Same (mask H3 A.ls) Hj∧Paired (StepsAt Hj) A.ls (sendAll hs ds ((bagsD ds s).take j) s.sss))
   ⟨none,rfl,mask_same _ _,Dc.we⟩ (fun j σ Hj _ ⟨_,_,h,_⟩=>SqL.of (h _ _ (mask_at hD3 nD3l))) ?_ ?_
  ·rintro j z σ Hj ez ⟨v4,rfl,sj,ej⟩
   unfold refs at ez
   rw [List.getElem?_map] at ez
   obtain ⟨bg,ebg,rfl⟩:=Option.map_eq_some_iff.mp ez
   obtain ⟨b,eb,c,hb1,hb2⟩:=Paired.get bags3 ebg
   obtain ⟨b1,b2,b3⟩:=bin b (List.mem_of_getElem? eb)
   have nt:∀{c:Addr} {v:List L2.V},H3 c=some (.tup v)→c∉A.ls:=fun {c v} e z=>by
    obtain ⟨ts,e2⟩:=lst3 Dc.we _ z
    rw [e] at e2;cases e2
   have tk:(bagsD ds s).take (j+1)=(bagsD ds s).take j++[b]:=by rw [List.take_add_one,eb];rfl
   have hxj:=sj _ _ (mask_at Dc.ins x9)
   have hwj:=sj _ _ (mask_at Dc.wi w4)
   have sbm:Same Hb (mask H3 A.ls):=fun b o e=>mask_at (Dc.sb _ _ e) fun z=>by rw [frl b z] at e;cases e
   refine ⟨_,rfl,x,CD,_,_,_,rfl,hxj,DC.cl,DC.nw,rfl,A.wk,A.dw,_,rfl,hwj,rfl,_,rfl,mask H3 A.ls,A.wk,A.n,A.g,A.sl,A.a',A.b',bg,goalsS s.lds,A.ls,A.rs,_,hs,ds,b,rfl,sj,⟨⟨_,mask_at Dc.wi w4⟩,mask_at Dc.wg g3,mask_at Dc.ws sl2⟩,ej,ndl,(fun l hl=>mask_no hl),D.net.same sbm,D.rds.same sbm,⟨c,mask_at hb1 (nt hb1),mask_at hb2 (nt hb2)⟩,b1,b2,?_,?_,fun H' s' e'=>⟨_,rfl,s',?_⟩⟩
   ·intro i hi
    rw [send_len]
    exact b3 i hi
   ·intro ss hss
    have:=send_few O (List.take_sublist j (bagsD ds s)) ss hss
    omega
   ·rw [tk,send_snoc]
    exact e'
  ·rintro σ Hj ⟨v4,rfl,sj,ej⟩
   rw [refs_len,la',List.take_length] at ej
   have hxj:=sj _ _ (mask_at Dc.ins x9)
   have hsj:=sj _ _ (mask_at Dc.se e1)
   have hDj:=sj _ _ (mask_at hD3 nD3l)
   have lsn:=Paired.length D.sp
   have snl:=O.snl
   refine ⟨_,rfl,x,CD,_,_,_,rfl,hxj,DC.cl,DC.ns,rfl,.inl ⟨rfl,_,SqL.of hsj⟩,_,rfl,A.se,D3,_,_,rfl,rfl,hsj,hDj,?_,?_⟩
   ·rw [refs_len,refs_len]
    exact Nat.le_trans (show _≤10000 by omega) (by decide)
   rw [show refs A.bas++refs as'=refs (A.bas++as') by unfold refs;rw [List.map_append]]
   have k1:∀b o,b≠A.se→Hj b=some o→upd Hj A.se (.lst (refs (A.bas++as'))) b=some o:=fun b o nb e=>(upd_ne nb).trans e
   have e1':upd Hj A.se (.lst (refs (A.bas++as'))) A.se=some (.lst (refs (A.bas++as'))):=upd_same
   dsimp only
   generalize upd Hj A.se (.lst (refs (A.bas++as')))=Hk at k1 e1' ⊢
   have hxk:=k1 _ _ x8 hxj
   refine ⟨_,rfl,x,CD,_,_,_,rfl,hxk,DC.cl,DC.np,rfl,_,_,rfl,rfl,_,rfl,x,CD,A.dx,_,rfl,hxk,DC.cl,DC.np,(by show 7 < 1000;decide),_,rfl,?_⟩
   have kx:∀b o,b∉[x,A.se]→Hj b=some o→upd Hk x (.ins CD A.dx (dayFs A.n A.pl A.y A.sh A.wk A.se (s.pr+1))) b=some o:=fun b o nb e=>by
    simp only [List.mem_cons,List.not_mem_nil,or_false,not_or] at nb
    exact (upd_ne nb.1).trans (k1 _ _ nb.2 e)
   have kf:∀{b o},b≠x→b≠A.se→b∉A.ls→H3 b=some o→upd Hk x (.ins CD A.dx (dayFs A.n A.pl A.y A.sh A.wk A.se (s.pr+1))) b=some o:=fun {b o} n1 n2 n3 e=>kx b o (by simp [n1,n2]) (sj _ _ (mask_at e n3))
   have nt:∀{c:Addr} {v:List L2.V},H3 c=some (.tup v)→c∉A.ls:=fun {c v} e z=>by
    obtain ⟨ts,e2⟩:=lst3 Dc.we _ z
    rw [e] at e2;cases e2
   have kt:∀b v,H3 b=some (.tup v)→upd Hk x (.ins CD A.dx (dayFs A.n A.pl A.y A.sh A.wk A.se (s.pr+1))) b=some (.tup v):=fun b v e=>kf (L2.ne_of e Dc.ins (by intro z;cases z)) (L2.ne_of e Dc.se (by intro z;cases z)) (nt e) e
   have s03:=s1.trans (s2.trans s3)
   have s02:=s1.trans s2
   have nD0:H D3=none:=by
    cases e:H D3 with
    | none=>rfl
    | some o=>rw [s02 _ _ e] at nD3;cases nD3
   obtain ⟨dy,hy3⟩:=Dc.wy
   have old:∀{b o},H3 b=some o→H2 b=some o→b≠D3:=fun {b o} _ e z=>by rw [z,nD3] at e;cases e
   obtain ⟨dyb,hyb⟩:=Db.wy
   have nDm:D3∉A.mu x:=fun z=>by
    unfold DA.mu at z
    simp only [List.mem_cons] at z
    rcases z with h | h | h | h | h | h | h | h | h | h
    ·exact ne_of_none Db.ins nD3 h.symm
    ·exact ne_of_none Db.po nD3 h.symm
    ·exact ne_of_none hyb nD3 h.symm
    ·exact ne_of_none Db.wt nD3 h.symm
    ·exact ne_of_none Db.sh nD3 h.symm
    ·exact ne_of_none Db.wi nD3 h.symm
    ·exact ne_of_none Db.wg nD3 h.symm
    ·exact ne_of_none Db.ws nD3 h.symm
    ·exact ne_of_none Db.se nD3 h.symm
    ·exact nD3l h
   have nDx:D3≠x:=fun z=>nDm (by unfold DA.mu;simp [z])
   have nDs:D3≠A.se:=fun z=>nDm (by unfold DA.mu;simp [z])
   have paired_app:∀{l l':List Addr} {m m':List (Kt × List Nat)} {F:Addr→Kt × List Nat→Prop},Paired F l m→Paired F l' m'→Paired F (l++l') (m++m'):=fun {l l' m m' F} p p'=>by
    induction p with
    | nil=>exact p'
    | cons r t ih=>exact .cons r ih
   refine q _ {A with bas:=A.bas++as'} D3 as' ⟨fun b o nb e=>?_,fun b hb=>.inl hb⟩ ⟨fun b o e=>?_,D.net,D.rds,upd_same,kf (Ne.symm x1) p7 p8 Dc.po,Paired.mapP Dc.pt fun _ _ e=>kt _ _ e,⟨dy,kf (Ne.symm x2) y6 y7 hy3⟩,kf (Ne.symm x3) t5 t6 Dc.wt,kf (Ne.symm x4) q4 q5 Dc.sh,kf (Ne.symm x5) w3 w4 Dc.wi,kf (Ne.symm x6) g2 g3 Dc.wg,kf (Ne.symm x7) sl1 sl2 Dc.ws,each_keep kx ?_ ej ?_,(upd_ne (Ne.symm x8)).trans e1',paired_app (Paired.mapP Dc.sp fun _ _ ⟨c,h1,h2⟩=>⟨c,kt _ _ h1,kt _ _ h2⟩) (Paired.mapP bags3 fun _ _ ⟨c,h1,h2⟩=>⟨c,kt _ _ h1,kt _ _ h2⟩),D.nd,D.fr⟩ nD0 nDm (kx _ _ (by simp [nDx,nDs]) hDj) (Paired.mapP bags3 fun _ _ ⟨c,h1,h2⟩=>⟨c,kt _ _ h1,kt _ _ h2⟩)
   ·unfold DA.mu at nb
    simp only [List.mem_cons,not_or] at nb
    exact kf nb.1 nb.2.2.2.2.2.2.2.2.1 nb.2.2.2.2.2.2.2.2.2 (s03 _ _ e)
   ·have f0:∀c∈A.mu x,b≠c:=fun c hc z=>by rw [z,D.fr c hc] at e;cases e
    exact kf (f0 x (by unfold DA.mu;simp)) (f0 A.se (by unfold DA.mu;simp)) (fun z=>f0 b (by unfold DA.mu;simp [z]) rfl) (Dc.sb _ _ e)
   ·intro b hb v e
    simp only [List.mem_cons,List.not_mem_nil,or_false] at hb
    rcases hb with rfl | rfl
    ·rw [hxj] at e;cases e
    ·rw [hsj] at e;cases e
   ·intro l hl z
    simp only [List.mem_cons,List.not_mem_nil,or_false] at z
    rcases z with rfl | rfl
    ·exact x9 hl
    ·exact e1 hl
end
open PySem L2 L3 M1
theorem lastS_snoc (ss:List Step) (st:Step):lastS (ss++[st])=st:=by
 unfold lastS
 simp
theorem lastS_app (ss:List Step):∀l:List Step,l=[]∧lastS (ss++l)=lastS ss∨∃st∈l,lastS (ss++l)=st:=fun l=>by
 rcases List.eq_nil_or_concat l with rfl | ⟨i,st,rfl⟩
 ·exact .inl ⟨rfl,by rw [List.append_nil]⟩
 ·refine .inr ⟨st,by simp,?_⟩
  rw [List.concat_eq_append,←List.append_assoc]
  exact lastS_snoc _ _
theorem rFin_mem {hs:List (List Nat)} {ds:List M1.Rd} (R:∀d∈ds,d.Ok hs.length) {r:Nat} (h:r < ds.length):rFin hs ds r∈hs.map S:=by
 unfold rFin
 have e:ds.getD r rd0∈ds:=by rw [List.getD,List.getElem?_eq_getElem h];exact List.getElem_mem h
 have hb:=(R _ e).b
 refine List.mem_map.mpr ⟨hs.getD (ds.getD r rd0).b [],?_,rfl⟩
 rw [List.getD,List.getElem?_eq_getElem hb]
 exact List.getElem_mem hb
theorem DayOk.pass {hs:List (List Nat)} {ds:List M1.Rd} {k:Nat} {s:DayS} (R:∀d∈ds,d.Ok hs.length) (O:DayOk hs ds k s):DayOk hs ds (k+1) (passS hs ds s):=by
 have el:∀ss∈sendAll hs ds (bagsD ds s) s.sss,∃s0∈s.sss,∃bs:List (Kt × List Nat),(∀b∈bs,b∈bagsD ds s)∧ss=s0++bs.map fun b=>stepK hs ds b.1:=fun ss hss=>by
  obtain ⟨i,hi⟩:=List.mem_iff_getElem?.mp hss
  rw [send_get] at hi
  obtain ⟨s0,e0,rfl⟩:=Option.map_eq_some_iff.mp hi
  exact ⟨s0,List.mem_of_getElem? e0,_,fun b hb=>(List.mem_filter.mp hb).1,rfl⟩
 refine ⟨(send_len _ _ _ _).trans O.len,O.l40,O.d40,O.lets,O.tab,fun ss hss=>?_,fun ss hss=>?_,fun ss hss=>?_,?_⟩
 ·obtain ⟨s0,h0,bs,_,rfl⟩:=el ss hss
  intro z
  exact O.ne s0 h0 (List.append_eq_nil_iff.mp z).1
 ·obtain ⟨s0,h0,bs,hb,rfl⟩:=el ss hss
  rcases lastS_app s0 (bs.map fun b=>stepK hs ds b.1) with ⟨_,e⟩ | ⟨st,hst,e⟩
  ·rw [e];exact O.hou s0 h0
  ·obtain ⟨b,hb',rfl⟩:=List.mem_map.mp hst
   rw [e]
   have:=hb b hb'
   unfold bagsD bagsN at this
   obtain ⟨r,hr,rb⟩:=List.mem_map.mp (List.mem_filter.mp this).1
   subst rb
   unfold roadsAt at hr
   exact rFin_mem R (List.mem_range.mp (List.mem_filter.mp hr).1)
 ·exact send_few O (List.Sublist.refl _) ss hss
 ·show (s.snt++bagsD ds s).length≤_
  rw [List.length_append]
  have h1:=O.snl
  have h2:(bagsD ds s).length≤40:=by
   unfold bagsD bagsN roadsAt
   refine Nat.le_trans (List.length_filter_le _ _) ?_
   rw [List.length_map]
   refine Nat.le_trans (List.length_filter_le _ _) ?_
   rw [List.length_range]
   exact O.d40
  omega
theorem DayOk.post {hs:List (List Nat)} {ds:List M1.Rd} {k:Nat} {s:DayS} (O:DayOk hs ds k s) {h g:Str} (hh:h∈hs.map S) (hg:g∈hs.map S) (l:s.lds.length+1≤40):DayOk hs ds k (postS s h g):=by
 have mem:∀ss∈s.sss++[firstS (h,s.pr,g)],ss∈s.sss∨ss=firstS (h,s.pr,g):=fun ss hs'=>by
  rcases List.mem_append.mp hs' with z | z
  ·exact .inl z
  ·exact .inr (List.mem_singleton.mp z)
 refine ⟨?_,?_,O.d40,fun d hd=>?_,O.tab,fun ss hss=>?_,fun ss hss=>?_,fun ss hss=>?_,O.snl⟩
 ·show (s.sss++[_]).length=(s.lds++[_]).length
  rw [List.length_append,List.length_append,O.len]
  rfl
 ·show (s.lds++[_]).length≤40
  rw [List.length_append]
  exact l
 ·rcases List.mem_append.mp hd with z | z
  ·exact O.lets d z
  ·rw [List.mem_singleton.mp z];exact ⟨hh,hg⟩
 ·rcases mem ss hss with z | rfl
  ·exact O.ne ss z
  ·unfold firstS;simp
 ·rcases mem ss hss with z | rfl
  ·exact O.hou ss z
  ·exact hh
 ·rcases mem ss hss with z | rfl
  ·exact O.few ss z
  ·show 1≤k+1;omega
theorem isL_iff {hs:List (List Nat)} {h g:Str} {t:Int}:isLetterD (hD hs) (ltE (h,t,g))=true↔h∈hs.map S∧g∈hs.map S∧h≠g∧0≤t∧t≤1000000000:=by
 show (unlikeD (hD hs) (.str h) (.str g) && withinD 0 1000000000 (.int t))=true↔_
 rw [Bool.and_eq_true]
 have w:withinD 0 1000000000 (.int t)=(decide (0≤t) && decide (t≤1000000000)):=rfl
 rw [w,Bool.and_eq_true,decide_eq_true_eq,decide_eq_true_eq]
 constructor
 ·rintro ⟨u,t0,t1⟩
  unfold unlikeD at u
  rw [Bool.and_eq_true,Bool.and_eq_true] at u
  refine ⟨?_,?_,?_,t0,t1⟩
  ·by_cases z:h∈hs.map S
   ·exact z
   ·rw [inD_hD z] at u;cases u.1.1
  ·by_cases z:g∈hs.map S
   ·exact z
   ·rw [inD_hD z] at u;cases u.1.2
  ·rintro rfl
   have:=u.2
   simp [PyData.eqv] at this
 ·rintro ⟨a,b,c,t0,t1⟩
  exact ⟨unlikeS a b c,t0,t1⟩
structure Posted (hs:List (List Nat)) (s:DayS):Prop where
 is:∀d∈s.lds,isLetterD (hD hs) (ltE d)=true
 lo:∀d∈s.lds,∀d0,s.lds.head?=some d0→d0.2.1≤d.2.1
 hi:∀d∈s.lds,d.2.1≤s.pr
theorem bad_some {hs:List (List Nat)} {s:DayS} (Pp:Posted hs s) {h g:Str} (b:isLetterD (hD hs) (ltE (h,s.pr,g))=false):firstBad (hD hs) ((s.lds++[(h,s.pr,g)]).map ltE)=some s.lds.length:=by
 refine firstBad_at (fun j hj d ed=>?_) ⟨ltE (h,s.pr,g),?_,b⟩
 ·rw [List.getElem?_map,List.getElem?_append_left hj] at ed
  obtain ⟨e,he,rfl⟩:=Option.map_eq_some_iff.mp ed
  exact Pp.is e (List.mem_of_getElem? he)
 ·rw [List.getElem?_map,List.getElem?_append_right (Nat.le_refl _),Nat.sub_self]
  rfl
theorem bad_none {hs:List (List Nat)} {s:DayS} (Pp:Posted hs s) {h g:Str} (b:isLetterD (hD hs) (ltE (h,s.pr,g))=true):firstBad (hD hs) ((s.lds++[(h,s.pr,g)]).map ltE)=none:=by
 refine firstBad_none.mp fun d hd=>?_
 obtain ⟨e,he,rfl⟩:=List.mem_map.mp hd
 rcases List.mem_append.mp he with z | z
 ·exact Pp.is e z
 ·rw [List.mem_singleton.mp z];exact b
theorem apart_post {hs:List (List Nat)} {s:DayS} (Pp:Posted hs s) (h g:Str):apartN (((s.lds++[(h,s.pr,g)]).map ltE).map turnD)=s.pr - ((s.lds.head?.map fun d=>d.2.1).getD s.pr):=by
 have e:((s.lds++[(h,s.pr,g)]).map ltE).map turnD=(s.lds++[(h,s.pr,g)]).map fun d=>d.2.1:=by
  rw [List.map_map]
  rfl
 rw [e]
 have ne:(s.lds++[(h,s.pr,g)]).map (fun d=>d.2.1)≠[]:=by simp
 unfold apartN
 rw [if_neg ne]
 obtain ⟨m1,m2⟩:=max_is ne
 obtain ⟨n1,n2⟩:=min_is ne
 have mx:L_max ((s.lds++[(h,s.pr,g)]).map fun d=>d.2.1)=s.pr:=by
  have a1:=m2 s.pr (List.mem_map.mpr ⟨(h,s.pr,g),by simp,rfl⟩)
  obtain ⟨d,hd,e1⟩:=List.mem_map.mp m1
  rcases List.mem_append.mp hd with z | z
  ·have:=Pp.hi d z
   omega
  ·rw [List.mem_singleton.mp z] at e1
   exact e1.symm
 rw [mx]
 cases hl:s.lds with
 | nil=>
  rw [hl] at n1
  obtain ⟨d,hd,e1⟩:=List.mem_map.mp n1
  have:d=(h,s.pr,g):=by simpa using hd
  rw [this] at e1
  simp only [List.head?_nil,Option.map_none,Option.getD_none]
  have e1:s.pr=L_min ((([]:List (Str × Int × Str))++[(h,s.pr,g)]).map fun d=>d.2.1):=e1
  rw [←e1]
 | cons d0 r=>
  rw [hl] at n1 n2
  have b1:=n2 d0.2.1 (List.mem_map.mpr ⟨d0,by simp,rfl⟩)
  obtain ⟨d,hd,e1⟩:=List.mem_map.mp n1
  have b2:d0.2.1≤d.2.1:=by
   rcases List.mem_append.mp hd with z | z
   ·exact Pp.lo d (by rw [hl];exact z) d0 (by rw [hl];rfl)
   ·rw [List.mem_singleton.mp z]
    exact Pp.hi d0 (by rw [hl];exact .head _)
  simp only [List.head?_cons,Option.map_some,Option.getD_some]
  omega
theorem Posted.pass {hs:List (List Nat)} {ds:List M1.Rd} {s:DayS} (Pp:Posted hs s):Posted hs (passS hs ds s):=⟨Pp.is,Pp.lo,fun d hd=>by have:=Pp.hi d hd;show d.2.1≤s.pr+1;omega⟩
theorem Posted.post {hs:List (List Nat)} {s:DayS} (Pp:Posted hs s) {h g:Str} (b:isLetterD (hD hs) (ltE (h,s.pr,g))=true):Posted hs (postS s h g):=by
 have mem:∀d∈s.lds++[(h,s.pr,g)],d∈s.lds∨d=(h,s.pr,g):=fun d hd=>by
  rcases List.mem_append.mp hd with z | z
  ·exact .inl z
  ·exact .inr (List.mem_singleton.mp z)
 refine ⟨fun d hd=>?_,fun d hd d0 e0=>?_,fun d hd=>?_⟩
 ·rcases mem d hd with z | rfl
  ·exact Pp.is d z
  ·exact b
 ·have e0:(s.lds++[(h,s.pr,g)]).head?=some d0:=e0
  cases hl:s.lds with
  | nil=>
   rw [hl] at e0
   cases e0
   rcases mem d hd with z | rfl
   ·rw [hl] at z;cases z
   ·exact Int.le_refl _
  | cons c r=>
   rw [hl] at e0
   cases e0
   rcases mem d hd with z | rfl
   ·exact Pp.lo d z d0 (by rw [hl];rfl)
   ·exact Pp.hi d0 (by rw [hl];exact .head _)
 ·rcases mem d hd with z | rfl
  ·exact Pp.hi d z
  ·exact Int.le_refl _
end K1
namespace L3
open PySem PySem.Spec PyProof.Rows L2
section
variable {X:Cx}
theorem kit_sub {K:PySem.W.Frag} {C D:Addr} {b:Bool} (hc:PySem.W.isClsIn K D=true) (ht:PySem.W.typeIn K (.ref D)=some (.type "type")) (hs:PySem.W.subIn K (.ref C) (.ref D)=some b) (hn:(Value.ref C==Value.ref D)=true→b=true):
  PySem.W.kitOne K (.ref C) (.ref D)=some b:=by
 unfold PySem.W.kitOne
 by_cases h:(Value.ref C==Value.ref D)=true
 ·rw [if_pos h,hn h]
 ·rw [if_neg h]
  unfold PySem.W.kitCls
  have h1:(PySem.W.clsIn K D).isSome=true:=hc
  have h2:(PySem.W.typeIn K (.ref D)==some (.type "type"))=true:=by rw [ht];decide
  show (if ((PySem.W.clsIn K D).isSome && PySem.W.typeIn K (.ref D)==some (.type "type"))=true then _ else _)=_
  rw [h1,h2]
  exact (if_pos rfl).trans hs
end
open PySem L2
section
variable {X:Cx} {e o:Expr} {es:List Expr} {pos apos p:Pos} {k:Nat} {f C:Addr} {fd:FuncData} {ps:List Str} {sp:Sp} {ta:TE} {t:TA} {m x:Str}
theorem pd_meth {pl:Sem Bool} (he:PE X.nox o ta) (c:Cls X.K C) (hm:Meth X.K C m f) (F:FnOk X.prog X.w X.K X.mg X.base (CXd X.prog X.w) k f fd ps sp) (hr:Room k X.A) (hb:Binds X.K fd ps []) (ha:PA X.nox (e::es) t)
  (hst:starEach (e::es) X.env=(false,eval e X.env)::starEach es X.env:=by rfl) (hpl:(backTo pos (starEach es X.env)).any (·.1)=false:=by rfl)
  (ht:eval (.Call (.Attribute o m apos) (e::es) [] pos) X.env=(do
   let ov ←eval o X.env
   standAt apos.atName
   let (f,first) ←holding [ov] (getMethod ov m pl)
   callWith pos f first (backTo pos (starEach (e::es) X.env)) (backToKw pos (keywordEach [] X.env))):=by rfl):
  PEd X (.Call (.Attribute o m apos) (e::es) [] pos) (tMethX C m sp ta t):=by
 intro pins s σ H Q E I h
 refine PySem.W.methodCall_KW (pl:=pl) (noW (X:=X) (pins:=pins) (thn (he pins s σ H _ (I.wish _) h) fun u s1 ⟨x,H1,I1,rx,a,dx,fs,ex,ea,l,q⟩=>?_)) ht
 subst ex
 obtain rfl:u=Value.ref a:=rx
 have I1:=I1.unwish
 refine getmeth_ok I1 ea c hm l ?_
 refine PySem.W.callWith_K (first:=[.ref a]) (h₀:=X.base) I.ok.mod.kin hm.kp (noW (X:=X) (pins:=pins) (thn (ha pos pins s1 σ H1 _ (I1.wish _) q) fun us s2 ⟨vs,H2,I2,r,q2⟩=>⟨I2.unwish.kIn,?_⟩)) hst hpl
 refine run_fnd (us:=.ref a::us) (vs:=.ref a::vs) F hr hb I2.unwish (.cons rfl r) ?_
 have q2':sp (V.ref a::(vs++[])) H2 Q E:=q2
 rw [List.append_nil] at q2'
 exact q2'
noncomputable def tAsgX (te:TEx) (i:Nat):TSx:=fun D E σ H=>te (E σ) σ H fun v H1=>D.nx (σ.set i (some v)) H1
theorem psd_set {i:Nat} {te:TEx} {pos':Pos} (hN:X.N.Nodup) (hi:X.N[i]?=some x) (hx:Loc X.env.scope x) (he:PEd X e te) (hs:swapsWith e (some (.Name x pos')) pos.line X.env=pure false:=by rfl) (hf:X.fn x=true∨X.env.scope.names.lookup x=some .local:=by first | exact .inl rfl | exact .inr rfl | assumption):
  PSd X (.Assign [.Name x pos'] e pos) (tAsgX te i):=by
 intro pins s σ H D E I h
 refine wpAny_Assign_Name (wpAny_mono (he pins s σ H _ _ I h) (fun v s1 ⟨y,H1,I1,r1,q1⟩=>?_) fun e s' q=>⟨σ,q⟩) hs
 exact store_ok I1 hN hi hx r1 (fun s2 I2=>⟨_,H1,I2,q1⟩) hf
end
end L3
namespace K1
open PySem L2 L3 M1
structure RefP (K:PySem.W.Frag) (NL RE NH:Addr):Prop where
 sub:excSub K NL NL=true
 re:PySem.W.kitOne K (.ref NL) (.ref RE)=some true
 ve:PySem.W.kitOne K (.ref NL) (.type "ValueError")=some true
 no:PySem.W.kitOne K (.ref NL) (.ref NH)=some false
 ec:ExcC K NL
 hn:PySem.W.findIn K (.ref NL) "number"=some none
 hd:PySem.W.hasDictIn K NL=true
noncomputable def refusedS:Str:=Str.ofString "refused"
noncomputable def spLp (CD C CW CN:Addr):Sp:=fun vs H Q _=>∃(Hb:Hp) (x:Addr) (A:DA) (hs:List (List Nat)) (ds:List M1.Rd) (s:DayS) (h g:Str),vs=[.ref x,.str h,.str g]∧DayAt CD C CW CN Hb H x A hs ds s∧Good hs∧LetsIn hs s.lds∧s.lds.length≤40∧s.sss.length=s.lds.length∧(∀H,Th H (.str h) (.str h))∧(∀H,Th H (.str g) (.str g))∧
 (AreL (hD hs) ((s.lds++[(h,s.pr,g)]).map ltE)→∀H' A' l,Mv (A.mu x) (A'.mu x) H H'→DayAt CD C CW CN Hb H' x A' hs ds (postS s h g)→H' l=some (.lst [.bl true,.int (s.lds.length:Int)])→Q (.ref l) H')∧
 (¬AreL (hD hs) ((s.lds++[(h,s.pr,g)]).map ltE)→∀H' l,Same H H'→H' l=some (.lst [.str refusedS,numV (firstBad (hD hs) ((s.lds++[(h,s.pr,g)]).map ltE))])→Q (.ref l) H')
section
variable {P:Program} {w:World} {K:PySem.W.Frag} {mg:Str→Option Value} {base:Heap}
noncomputable abbrev sLp:Stmt:=top 48
noncomputable abbrev nLp:List Str:=["_law_day","_law_house","_law_goal","_law_error","_law_found","e"]
theorem scLp:FnScope nLp ["_law_day","_law_house","_law_goal"] (defScope sLp):=⟨rfl,rfl,rfl,by decide+kernel,rfl,by decide+kernel,by decide+kernel⟩
theorem ok_lp {CD C CW CN NL RE NH f f1:Addr} {fd fd1:FuncData} (F:Fun K "_law_post" "_law_post" sLp f fd) (B:Blt mg) (KT:Kit K) (Cl_Day:Cls K CD) (RC:RefP K NL RE NH) (at_RoadError:mg "RoadError"=some (.ref RE)) (at_NoLetter:mg "NoLetter"=some (.ref NL)) (at_NoHouse:mg "NoHouse"=some (.ref NH))
  (M_Day_post:Mn K CD "post" "Day.post" sPost ["self","house","goal"] f1 fd1) (G_Day_post:FnOk P w K mg base (CXd P w) 5 f1 fd1 ["self","house","goal"] (spPost CD C CW CN NL)):FnOk P w K mg base CX0 6 f fd ["_law_day","_law_house","_law_goal"] (spLp CD C CW CN):=by
 refine F.ok scLp (fun vs H Q E h=>?_) (fun cdv A outer s H vs Q E hr h=>?_)
 ·obtain ⟨Hb,x,A,hs,ds,s,h',g',rfl,_⟩:=h
  rfl
 ·obtain ⟨Hb,x,A,hs,ds,s,h',g',rfl,D,G,LI,l40,lss,th,tg,q,qE⟩:=h
  have hR_NoLetter:=RC.sub
  refine ⟨_,(pss_cons (ps_set (i:=3) scLp.nd rfl (Or.inl rfl) pe_non)
   (pss_cons (ps_set (i:=4) scLp.nd rfl (Or.inl rfl) pe_non)
   (pss_cons (ps_tryD (i:=5) rfl rfl (psd_set (i:=4) scLp.nd rfl (Or.inl rfl) (pd_meth (pv 0) Cl_Day M_Day_post.me G_Day_post (hr.mono (by decide)) M_Day_post.bd (pa_cons (pv 1) (pa_cons (pv 2) pa_nil)))) scLp.nd rfl rfl rfl at_NoLetter hR_NoLetter (fun ea=>(pss_one (ps_set (i:=3) scLp.nd rfl (Or.inl rfl) (pv 5)))))
   (pss_cons (ps_if (pt_cmpR op_isN (pv 3) pe_non (nomark _)) (pss_one (ps_ret (pe_lst (pa_cons (pe_and (pe_callB call_isi (by rfl) B.isinstance bt_isinstance (pa_cons (pv 4) (pa_cons (pe_bty (by rfl) B.int bt_int) pa_nil))) (pe_one (pe_not (pe_callB call_isi (by rfl) B.isinstance bt_isinstance (pa_cons (pv 4) (pa_cons (pe_bty (by rfl) B.bool bt_bool) pa_nil)))))) (pa_cons (pv 4) pa_nil))))) pss_nil)
   (pss_cons (ps_if (PW.pt (pw_or (pt_not (pt_val (pe_callB call_isiD (by rfl) B.isinstance bt_isinstance (pa_cons (pv 3) (pa_cons (pe_cls (by rfl) at_RoadError) pa_nil))))) (pw_or (pt_not (pt_val (pe_callB call_isiD (by rfl) B.isinstance bt_isinstance (pa_cons (pv 3) (pa_cons (pe_bty (by rfl) B.ValueError bt_ValueError) pa_nil))))) (pw_or1 (pt_val (pe_callB call_isiD (by rfl) B.isinstance bt_isinstance (pa_cons (pv 3) (pa_cons (pe_cls (by rfl) at_NoHouse) pa_nil)))))))) (pss_one (ps_ret (pe_lst (pa_cons pe_str pa_nil)))) pss_nil)
   (pss_one (ps_ret (pe_lst (pa_cons pe_str (pa_cons (pe_fldX (pv 3) (by rfl)) pa_nil)))))))))),?_⟩
  refine ⟨_,rfl,x,_,_,rfl,D.ins,rfl,_,rfl,_,rfl,Hb,x,A,hs,ds,s,h',g',rfl,D,G,LI,l40,lss,th,tg,fun ar H1 A1 mv D1=>?_,fun na dx H1 nd s1 hd=>⟨NL,dx,rfl,rfl,RC.sub,fun ea hea=>?_⟩⟩
  ·refine ⟨_,rfl,rfl,_,rfl,iteB (decide_eq_true rfl) ?_⟩
   refine ⟨_,rfl,_,_,_,_,_,rfl,⟨rfl,.int _,kit_eq _ _⟩,_,rfl,iteT ?_⟩
   refine ⟨_,rfl,_,_,_,_,_,rfl,⟨rfl,.int _,KT.ib⟩,_,rfl,_,rfl,(by show 2≤sizeLine;decide),fun l nl=>?_⟩
   have u:=upd_free (o:=.lst [.bl true,.int (s.lds.length:Int)]) nl
   exact q ar _ A1 l (mv.trans (Mv.refl u)) (D1.same u) upd_same
  ·refine ⟨_,rfl,?_⟩
   have sm2:Same H (upd H1 ea (exD ea NL dx)):=s1.trans (upd_free hea)
   have hE:upd H1 ea (exD ea NL dx) ea=some (exD ea NL dx):=upd_same
   have hX:upd H1 ea (exD ea NL dx) dx=some (xdO dx [("number",numV (firstBad (hD hs) ((s.lds++[(h',s.pr,g')]).map ltE)))]):=upd_free hea _ _ hd
   generalize upd H1 ea (exD ea NL dx)=H2 at sm2 hE hX ⊢
   refine ⟨_,rfl,rfl,_,rfl,iteN (decide_eq_false (by intro z;cases z)) ?_⟩
   refine ⟨_,rfl,ea,NL,dx,_,hE,RC.ec,.inl ⟨_,rfl,RC.re⟩,_,rfl,iteF ?_⟩
   refine ⟨_,rfl,ea,NL,dx,_,hE,RC.ec,.inr ⟨_,rfl,RC.ve⟩,_,rfl,iteF ?_⟩
   refine ⟨_,rfl,ea,NL,dx,_,hE,RC.ec,.inl ⟨_,rfl,RC.no⟩,_,rfl,iteF ?_⟩
   refine ⟨_,rfl,ea,NL,dx,_,_,rfl,hE,hX,RC.ec,RC.hn,RC.hd,rfl,(by show 2≤sizeLine;decide),fun l nl=>?_⟩
   exact qE na _ l (sm2.trans (upd_free nl)) upd_same
end
open PySem L2 L3 M1
theorem lts_th {H:Hp} {hs:List (List Nat)} (G:Good hs) {rs:List Addr} {lds:List (Str × Int × Str)} (tp:Tups H rs (lds.map ltT)) (LI:LetsIn hs lds):Ths H (refs rs) (lds.map ltE):=ths_lts tp fun d hd=>⟨th_nmS G (LI d hd).1,th_nmS G (LI d hd).2⟩
theorem lts_shaped {H:Hp} {vs:List L2.V} {lds:List (Str × Int × Str)} (h:Ths H vs (lds.map ltE)):SeqAt.shaped (.list (lds.map ltE))=true:=shaped_of (n:=62) (Ths.can h) (ltE_depth _) (by decide)
noncomputable def spRi (CD C CW CN:Addr):Sp:=fun vs H Q _=>∃(Hb:Hp) (x:Addr) (A:DA) (hs:List (List Nat)) (ds:List M1.Rd) (s:DayS) (lp:Addr) (prs:List Addr),vs=[.ref x,.ref lp,.int s.pr]∧DayAt CD C CW CN Hb H x A hs ds s∧Good hs∧LetsIn hs s.lds∧s.lds.length≤40∧H lp=some (.lst (refs prs))∧Tups H prs (s.lds.map ltT)∧∀H',Same H H'→Q (.bl true) H'
section
variable {P:Program} {w:World} {K:PySem.W.Frag} {mg:Str→Option Value} {base:Heap}
noncomputable abbrev sRi:Stmt:=top 50
theorem scRi:FnScope ["_law_day","_law_posted","_law_now","_law_found","_law_here"] ["_law_day","_law_posted","_law_now"] (defScope sRi):=⟨rfl,rfl,rfl,by decide+kernel,rfl,by decide+kernel,by decide+kernel⟩
theorem ok_ri {CD C CW CN f f1 f2:Addr} {fd fd1 fd2:FuncData} (F:Fun K "_law_right" "_law_right" sRi f fd) (B:Blt mg) (KT:Kit K) (Cl_Day:Cls K CD)
  (M_Day_letters:Mn K CD "letters" "Day.letters" sLts ["self"] f1 fd1) (G_Day_letters:FnOk P w K mg base CX0 1 f1 fd1 ["self"] (spLts CD C CW CN))
  (M_Day_now:Mn K CD "now" "Day.now" sNow ["self"] f2 fd2) (G_Day_now:FnOk P w K mg base CX0 1 f2 fd2 ["self"] (spNow CD C CW CN)):FnOk P w K mg base CX0 2 f fd ["_law_day","_law_posted","_law_now"] (spRi CD C CW CN):=by
 refine F.ok scRi (fun vs H Q E h=>?_) (fun cdv A outer s H vs Q E hr h=>?_)
 ·obtain ⟨Hb,x,A,hs,ds,s,lp,prs,rfl,_⟩:=h
  rfl
 ·obtain ⟨Hb,x,A,hs,ds,s,lp,prs,rfl,D,G,LI,l40,hlp,tp,q⟩:=h
  refine ⟨_,(pss_cons (ps_set (i:=3) scRi.nd rfl (Or.inl rfl) (pe_meth0 (pv 0) Cl_Day M_Day_letters.me G_Day_letters (hr.mono (by decide)) M_Day_letters.bd .nil pass0))
   (pss_cons (ps_set (i:=4) scRi.nd rfl (Or.inl rfl) (pe_meth0 (pv 0) Cl_Day M_Day_now.me G_Day_now (hr.mono (by decide)) M_Day_now.bd .nil pass0))
   (pss_cons (ps_if (PW.pt (pw_or (pt_not (pt_val (pe_callB call_isi (by rfl) B.isinstance bt_isinstance (pa_cons (pv 3) (pa_cons (pe_bty (by rfl) B.list bt_list) pa_nil))))) (pw_or (pt_cmpR (op_neD hr.units) (pv 3) (pv 1) (nomark _)) (pw_or (pt_val (pe_callB call_isi (by rfl) B.isinstance bt_isinstance (pa_cons (pv 4) (pa_cons (pe_bty (by rfl) B.bool bt_bool) pa_nil)))) (pw_or1 (pt_cmpR op_ne (pv 4) (pv 2) (nomark _))))))) (pss_one (ps_ret pe_bl)) pss_nil)
   (pss_cons (ps_expr (pe_bm PySem.F.plainAttrs_list PySem.F.slot_list_append PySem.F.type_list_append mt_append (pv 3) (pa_cons pe_non pa_nil)))
   (pss_one (ps_ret (pe_cmpR (op_eqD hr.units) (pe_meth0 (pv 0) Cl_Day M_Day_letters.me G_Day_letters (hr.mono (by decide)) M_Day_letters.bd .nil pass0) (pv 1) (nomark _)))))))),?_⟩
  refine ⟨_,rfl,x,_,_,rfl,D.ins,rfl,Hb,x,A,hs,ds,s,rfl,D,fun l nl=>?_⟩
  have u1:=upd_free (o:=.lst (refs A.prs)) nl
  have l1:upd H l (.lst (refs A.prs)) l=some (.lst (refs A.prs)):=upd_same
  generalize upd H l (.lst (refs A.prs))=H1 at u1 l1 ⊢
  have D1:=D.same u1
  have t1:=lts_th G D1.pt LI
  have t2:=lts_th G (tp.same u1) LI
  have sh:=lts_shaped t1
  have lA:A.prs.length=s.lds.length:=by have:=Paired.length D.pt;rw [List.length_map] at this;exact this
  refine ⟨_,rfl,x,_,_,rfl,D1.ins,rfl,Hb,x,A,hs,ds,s,rfl,D1,?_⟩
  refine ⟨_,rfl,_,_,_,_,_,rfl,⟨rfl,.lst l1,kit_eq _ _⟩,_,rfl,iteF ?_⟩
  refine ⟨_,rfl,_,rfl,_,_,.lst (SqL.of l1) (Ths.dt t1),.lst (SqL.of (u1 _ _ hlp)) (Ths.dt t2),sh,sh,_,rfl,iteN (ne_self (Ths.can t1)) ?_⟩
  refine ⟨_,rfl,_,_,_,_,_,rfl,⟨rfl,.int _,KT.ib⟩,_,rfl,iteF ?_⟩
  refine ⟨_,rfl,_,rfl,rfl,_,rfl,iteN (by simp) ?_⟩
  refine ⟨_,rfl,.inl ⟨rfl,_,SqL.of l1⟩,l,_,_,rfl,rfl,l1,small1000 (by rw [refs_len];omega),?_⟩
  have s2:Same H (upd H1 l (.lst (refs A.prs++[V.non]))):=upd_other nl u1
  have D2:=D.same s2
  refine ⟨_,rfl,x,_,_,rfl,D2.ins,rfl,Hb,x,A,hs,ds,s,rfl,D2,fun l' nl'=>?_⟩
  have u3:=upd_free (o:=.lst (refs A.prs)) nl'
  have s3:=s2.trans u3
  have D3:=D.same s3
  exact ⟨_,rfl,_,_,.lst (SqL.of upd_same) (Ths.dt (lts_th G D3.pt LI)),.lst (SqL.of (s3 _ _ hlp)) (Ths.dt (lts_th G (tp.same s3) LI)),sh,sh,bl_of (eqv_self _ (Ths.can t1)) (q _ s3)⟩
end
open PySem L2 L3 M1
structure OddOk (hs:List (List Nat)):Prop where
 e:Str.ofString ""∉hs.map S
 a:Str.ofString "A"∉hs.map S
 x:∀h∈hs.map S,h++Str.ofString "x"∉hs.map S
 th:∀h∈hs.map S,∀H,Th H (.str (h++Str.ofString "x")) (.str (h++Str.ofString "x"))
noncomputable def stN (c:Int):Int:=c * 1099087573 % 10000000000037
noncomputable def spSt (CD C CW CN:Addr):Sp:=fun vs H Q _=>∃(Hb:Hp) (x:Addr) (A:DA) (hs:List (List Nat)) (ds:List M1.Rd) (s:DayS) (k:Nat) (lp nm:Addr) (prs:List Addr) (c:Int),vs=[.ref x,.ref lp,.ref nm,.int c,.int s.pr]∧DayAt CD C CW CN Hb H x A hs ds s∧Good hs∧2≤hs.length∧DayOk hs ds k s∧Posted hs s∧0≤s.pr∧Hb nm=some (.lst (txs hs))∧H lp=some (.lst (refs prs))∧Tups H prs (s.lds.map ltT)∧lp∉A.mu x∧Hb lp=none∧OddOk hs∧
 ∀H' A' s' prs',Mv (lp::A.mu x) (lp::A'.mu x) H H'→DayAt CD C CW CN Hb H' x A' hs ds s'→DayOk hs ds k s'→Posted hs s'→s'.pr=s.pr→H' lp=some (.lst (refs prs'))→Tups H' prs' (s'.lds.map ltT)→lp∉A'.mu x→Q (.bl true) H'
section
variable {P:Program} {w:World} {K:PySem.W.Frag} {mg:Str→Option Value} {base:Heap}
noncomputable abbrev sSt:Stmt:=top 49
noncomputable abbrev nSt:List Str:=["_law_day","_law_posted","_law_names","_law_cell","_law_now","_law_n","_law_house","_law_goal","_law_bad","_law_due"]
theorem scSt:FnScope nSt ["_law_day","_law_posted","_law_names","_law_cell","_law_now"] (defScope sSt):=⟨rfl,rfl,rfl,by decide+kernel,rfl,by decide+kernel,by decide+kernel⟩
theorem ok_st {CD C CW CN f f1:Addr} {fd fd1:FuncData} (F:Fun K "_law_step" "_law_step" sSt f fd) (B:Blt mg)
  (D__law_post:Dn K mg "_law_post" sLp ["_law_day","_law_house","_law_goal"] f1 fd1) (G__law_post:FnOk P w K mg base CX0 6 f1 fd1 ["_law_day","_law_house","_law_goal"] (spLp CD C CW CN)):FnOk P w K mg base CX0 7 f fd ["_law_day","_law_posted","_law_names","_law_cell","_law_now"] (spSt CD C CW CN):=by
 refine F.ok scSt (fun vs H Q E h=>?_) (fun cdv A outer s H vs Q E hr h=>?_)
 ·obtain ⟨Hb,x,A,hs,ds,s,k,lp,nm,prs,c,rfl,_⟩:=h
  rfl
 ·obtain ⟨Hb,x,A,hs,ds,s,k,lp,nm,prs,c,rfl,D,G,h2,O,Pp,pr0,hnm,hlp,tp,nlp,blp,OK,q⟩:=h
  refine ⟨_,(pss_cons (ps_set (i:=5) scSt.nd rfl (Or.inl rfl) (pe_op op_mod (pe_op op_mul (pv 3) pe_int) pe_int))
   (pss_cons (ps_set (i:=6) scSt.nd rfl (Or.inl rfl) (pe_ix ix_list (pv 2) (pe_op op_mod (pe_op op_fdiv (pv 5) pe_int) (pe_callB call_len_seq (by rfl) B.len bt_len (pa_cons (pv 2) pa_nil))) (fun _ _=>rfl)))
   (pss_cons (ps_set (i:=7) scSt.nd rfl (Or.inl rfl) (pe_ix ix_list (pv 2) (pe_op op_mod (pe_op op_add (pe_op op_add (pe_op op_fdiv (pv 5) pe_int) pe_int) (pe_op op_mod (pe_op op_fdiv (pv 5) pe_int) (pe_op op_sub (pe_callB call_len_seq (by rfl) B.len bt_len (pa_cons (pv 2) pa_nil)) pe_int))) (pe_callB call_len_seq (by rfl) B.len bt_len (pa_cons (pv 2) pa_nil))) (fun _ _=>rfl)))
   (pss_cons (ps_set (i:=8) scSt.nd rfl (Or.inl rfl) (pe_cmpR op_eq (pe_op op_mod (pv 5) pe_int) pe_int (nomark _)))
   (pss_cons (ps_if (pt_val (pv 8)) (pss_one (ps_set (i:=7) scSt.nd rfl (Or.inl rfl) (pe_ix ix_list (pe_lst (pa_cons (pv 6) (pa_cons pe_str (pa_cons (pe_op op_add_str (pv 6) pe_str) (pa_cons pe_str pa_nil))))) (pe_op op_mod (pe_op op_fdiv (pv 5) pe_int) pe_int) (fun _ _=>rfl)))) pss_nil)
   (pss_cons (ps_set (i:=9) scSt.nd rfl (Or.inl rfl) (pe_lst (pa_cons pe_bl (pa_cons (pe_callB call_len_seq (by rfl) B.len bt_len (pa_cons (pv 1) pa_nil)) pa_nil))))
   (pss_cons (ps_if (PW.pt (pw_or (pt_val (pv 8)) (pw_or1 (pt_cmpR op_gt (pv 4) (pe_op op_pow pe_int pe_int) (nomark _))))) (pss_one (ps_set (i:=9) scSt.nd rfl (Or.inl rfl) (pe_lst (pa_cons pe_str (pa_cons (pe_callB call_len_seq (by rfl) B.len bt_len (pa_cons (pv 1) pa_nil)) pa_nil))))) (pss_one (ps_if (PW.pt (pw_or (pt_cmpR op_eq (pe_callB call_len_seq (by rfl) B.len bt_len (pa_cons (pv 1) pa_nil)) pe_int (nomark _)) (pw_or1 (PW.pt (pw_and (pt_cmpR (op_neD hr.units) (pv 1) (pe_lst pa_nil) (nomark _)) (pw_and1 (pt_cmpR op_gt (pe_op op_sub (pv 4) (pe_ix ix_tup (pe_ix ix_list (pv 1) pe_int (fun _ _=>rfl)) pe_int (fun _ _=>rfl))) pe_int (nomark _)))))))) (pss_one (ps_set (i:=9) scSt.nd rfl (Or.inl rfl) (pe_lst (pa_cons pe_str (pa_cons pe_non pa_nil))))) (pss_one (ps_expr (pe_bm PySem.F.plainAttrs_list PySem.F.slot_list_append PySem.F.type_list_append mt_append (pv 1) (pa_cons (pe_tup (pa_cons (pv 6) (pa_cons (pv 4) (pa_cons (pv 7) pa_nil)))) pa_nil)))))))
   (pss_one (ps_ret (pe_cmpR (op_eqD hr.units) (pe_call G__law_post (hr.mono (by decide)) (by rfl) D__law_post.at_ D__law_post.fn.kp D__law_post.bd .nil pass0 (pa_cons (pv 0) (pa_cons (pv 6) (pa_cons (pv 7) pa_nil)))) (pv 9) (nomark _))))))))))),?_⟩
  have hl:=txs_len hs
  have m0:(0:Int) < (hs.length:Int):=by omega
  have f12:=G.few
  have hn0:=D.sb _ _ hnm
  have n0:0≤stN c:=Int.emod_nonneg _ (by decide)
  refine ⟨_,rfl,_,_,rfl,rfl,.inr ⟨by decide,by decide⟩,_,_,rfl,rfl,(by show (0:Int) < 10000000000037;decide),?_⟩
  have b1:0≤stN c / 8 % (hs.length:Int):=Int.emod_nonneg _ (by omega)
  have b2:stN c / 8 % (hs.length:Int) < hs.length:=Int.emod_lt_of_pos _ m0
  have e1:0≤(stN c / 8+1+stN c / 96 % ((hs.length:Int) - 1)) % (hs.length:Int):=Int.emod_nonneg _ (by omega)
  have e2:(stN c / 8+1+stN c / 96 % ((hs.length:Int) - 1)) % (hs.length:Int) < hs.length:=Int.emod_lt_of_pos _ m0
  show tSeq _ _ _ _ _
  refine ⟨_,rfl,_,rfl,_,_,rfl,rfl,⟨by decide,by decide⟩,_,rfl,nm,_,rfl,.inl (SqL.of hn0),?_⟩
  rw [hl]
  refine ⟨_,_,rfl,rfl,m0,nm,_,_,_,rfl,rfl,SqL.of hn0,txs_at (k:=stN c / 8 % (hs.length:Int)) b1 b2,?_⟩
  obtain ⟨hh,ehh⟩:∃hh,hh=S (hs.getD (stN c / 8 % (hs.length:Int)).toNat []):=⟨_,rfl⟩
  rw [←ehh]
  have gm:∀{i:Int},0≤i→i < hs.length→S (hs.getD i.toNat [])∈hs.map S:=fun {i} i0 i1=>by
   refine List.mem_map.mpr ⟨_,?_,rfl⟩
   have:i.toNat < hs.length:=by omega
   rw [List.getD,List.getElem?_eq_getElem this]
   exact List.getElem_mem this
  have hm:hh∈hs.map S:=by rw [ehh];exact gm b1 b2
  have thm:∀{y:Str},y∈hs.map S→∀H,Th H (.str y) (.str y):=fun {y} hy H=>th_nmS G hy
  have lpr:prs.length=s.lds.length:=by have:=Paired.length tp;rw [List.length_map] at this;exact this
  have l40:=O.l40
  have refuse:∀(Hc:Hp) (g:Str) (n bd:Option L2.V) (du:Addr),Same H Hc→Hc du=some (.lst [.str (Str.ofString "refused"),numV (firstBad (hD hs) ((s.lds++[(hh,s.pr,g)]).map ltE))])→¬AreL (hD hs) ((s.lds++[(hh,s.pr,g)]).map ltE)→(∀H,Th H (.str g) (.str g))→
    tRet (tOp (rEqD K false) (tCall (spLp CD C CW CN) [] E0 (tCons (tVar 0) (tCons (tVar 6) (tCons (tVar 7) tNil)))) (tVar 9)) {nx:=fun _ H'=>Q .non H',rt:=Q} [some (.ref x),some (.ref lp),some (.ref nm),some (.int c),some (.int s.pr),n,some (.str hh),some (.str g),bd,some (.ref du)] Hc:=fun Hc g n bd du sc hdu na tg=>by
   have Dc:=D.same sc
   refine ⟨_,rfl,_,rfl,_,rfl,Hb,x,A,hs,ds,s,hh,g,rfl,Dc,G,O.lets,O.l40,O.len,thm hm,tg,fun ar=>absurd ar na,fun _ H' l s' hl=>⟨_,rfl,?_⟩⟩
   have sH:=sc.trans s'
   have fin:∀(v:L2.V) (d:PyData),(∀Hz,Dt K Hz v d)→d.canLay0=true→d.depth≤1→H' l=some (.lst [.str refusedS,v])→H' du=some (.lst [.str (Str.ofString "refused"),v])→rEqD K false (.ref l) (.ref du) H' Q:=fun v d hd cd dd h1 h2=>by
    have cn:(PyData.list [.str (Str.ofString "refused"),d]).canLay0=true:=can_all fun y hy=>by
     simp only [List.mem_cons,List.not_mem_nil,or_false] at hy
     rcases hy with rfl | rfl
     ·decide+kernel
     ·exact cd
    have sh:SeqAt.shaped (PyData.list [.str (Str.ofString "refused"),d])=true:=shaped_of (n:=2) cn (dlist fun y hy=>by
     simp only [List.mem_cons,List.not_mem_nil,or_false] at hy
     rcases hy with rfl | rfl
     ·exact Nat.zero_le _
     ·exact dd) (by decide)
    exact ⟨_,_,.lst (SqL.of h1) (.cons (.str _) (.cons (hd _) .nil)),.lst (SqL.of h2) (.cons (.str _) (.cons (hd _) .nil)),sh,sh,bl_of (eqv_self _ cn) (q H' A s prs ⟨fun b o _ e=>sH _ _ e,fun b hb=>.inl hb⟩ (D.same sH) O Pp rfl (sH _ _ hlp) (tp.same sH) nlp)⟩
   have h2:=s' _ _ hdu
   revert hl h2
   cases firstBad (hD hs) ((s.lds++[(hh,s.pr,g)]).map ltE) with
   | none=>exact fun hl h2=>fin .non .none (fun _=>.non) rfl (Nat.zero_le _) hl h2
   | some i=>exact fun hl h2=>fin (.int i) (.int i) (fun _=>.int _) rfl (Nat.zero_le _) hl h2
  refine to_nx ?_
  refine ⟨_,rfl,_,rfl,_,_,rfl,rfl,⟨by decide,by decide⟩,_,_,rfl,rfl,_,rfl,_,_,rfl,rfl,⟨by decide,by decide⟩,_,rfl,nm,_,rfl,.inl (SqL.of hn0),?_⟩
  rw [hl]
  refine ⟨_,_,rfl,rfl,_,_,rfl,rfl,(by show (0:Int) < (hs.length:Int) - 1;omega),_,_,rfl,rfl,_,rfl,nm,_,rfl,.inl (SqL.of hn0),?_⟩
  rw [hl]
  refine ⟨_,_,rfl,rfl,m0,nm,_,_,_,rfl,rfl,SqL.of hn0,txs_at (k:=(stN c / 8+1+stN c / 96 % ((hs.length:Int) - 1)) % (hs.length:Int)) e1 e2,?_⟩
  obtain ⟨gg,egg⟩:∃gg,gg=S (hs.getD ((stN c / 8+1+stN c / 96 % ((hs.length:Int) - 1)) % (hs.length:Int)).toNat []):=⟨_,rfl⟩
  rw [←egg]
  have gmm:gg∈hs.map S:=by rw [egg];exact gm e1 e2
  refine to_nx ?_
  refine ⟨_,rfl,_,_,rfl,rfl,(by show (0:Int) < 8;decide),rfl,?_⟩
  have lrp:((refs prs).length:Int)=(s.lds.length:Int):=by rw [refs_len,lpr]
  by_cases hb:stN c % 8=1
  ·obtain ⟨w,ew,tw,bw⟩:∃w:Str,L2.atI [V.str hh,V.str (Str.ofString ""),V.str (hh++Str.ofString "x"),V.str (Str.ofString "A")] (stN c / 8 % 4)=some (.str w)∧(∀H,Th H (.str w) (.str w))∧∀t,isLetterD (hD hs) (ltE (hh,t,w))=false:=by
    have i0:0≤stN c / 8 % 4:=Int.emod_nonneg _ (by decide)
    have i1:stN c / 8 % 4 < 4:=Int.emod_lt_of_pos _ (by decide)
    have no:∀{g:Str},(g∈hs.map S→g=hh)→∀t,isLetterD (hD hs) (ltE (hh,t,g))=false:=fun {g} hg t=>Bool.eq_false_iff.mpr fun z=>by
     obtain ⟨_,z2,z3,_⟩:=isL_iff.mp z
     exact z3 (hg z2).symm
    have:stN c / 8 % 4=0∨stN c / 8 % 4=1∨stN c / 8 % 4=2∨stN c / 8 % 4=3:=by omega
    rcases this with e | e | e | e
    ·exact ⟨hh,by rw [e];exact atI_nat (j:=0) rfl,thm hm,no fun _=>rfl⟩
    ·exact ⟨Str.ofString "",by rw [e];exact atI_nat (j:=1) rfl,fun H=>.str _ (by decide) (by decide+kernel),no fun z=>absurd z OK.e⟩
    ·exact ⟨hh++Str.ofString "x",by rw [e];exact atI_nat (j:=2) rfl,OK.th hh hm,no fun z=>absurd z (OK.x hh hm)⟩
    ·exact ⟨Str.ofString "A",by rw [e];exact atI_nat (j:=3) rfl,fun H=>.str _ (by decide+kernel) (by decide+kernel),no fun z=>absurd z OK.a⟩
   have lh:hh.length≤100:=(th_str (thm hm H)).2.1
   refine to_nx ?_
   refine ⟨_,rfl,_,rfl,iteB (decide_eq_true (by show V.int (stN c % 8)=V.int 1;rw [hb])) ?_⟩
   refine ⟨_,rfl,_,rfl,_,_,rfl,rfl,(by show hh.length+1≤sizeLine;exact Nat.le_of_lt (small1000 (by omega))),(by show 4≤sizeLine;decide),fun l nl=>?_⟩
   have u1:=upd_free (o:=.lst [V.str hh,V.str (Str.ofString ""),V.str (hh++Str.ofString "x"),V.str (Str.ofString "A")]) nl
   have l1:upd H l (.lst [V.str hh,V.str (Str.ofString ""),V.str (hh++Str.ofString "x"),V.str (Str.ofString "A")]) l=_:=upd_same
   generalize upd H l (.lst [V.str hh,V.str (Str.ofString ""),V.str (hh++Str.ofString "x"),V.str (Str.ofString "A")])=H1 at u1 l1 ⊢
   refine ⟨_,rfl,_,_,rfl,rfl,⟨by decide,by decide⟩,_,_,rfl,rfl,(by show (0:Int) < 4;decide),l,_,_,_,rfl,rfl,SqL.of l1,ew,?_⟩
   refine to_nx ?_
   refine ⟨_,rfl,lp,_,rfl,.inl (SqL.of (u1 _ _ hlp)),(by show 2≤sizeLine;decide),fun du ndu=>?_⟩
   have u2:=upd_free (o:=.lst [V.bl true,V.int ((refs prs).length:Int)]) ndu
   generalize upd H1 du (.lst [V.bl true,V.int ((refs prs).length:Int)])=H2 at u2 ⊢
   refine to_nx ?_
   refine ⟨_,rfl,_,rfl,iteB (decide_eq_true (by show V.int (stN c % 8)=V.int 1;rw [hb])) ?_⟩
   refine ⟨_,rfl,lp,_,rfl,.inl (SqL.of (u2 _ _ (u1 _ _ hlp))),(by show 2≤sizeLine;decide),fun du2 ndu2=>?_⟩
   have fb:=bad_some Pp (bw s.pr)
   refine refuse _ w _ _ du2 (u1.trans (u2.trans (upd_free ndu2))) ?_ (fun ar=>?_) tw
   ·rw [upd_same,lrp,fb]
    rfl
   ·have:=ar.1
    rw [fb] at this
    cases this
  ·have ngg:hh≠gg:=by
    rw [ehh,egg]
    refine ne_at G.nd (by omega) (by omega) fun z=>?_
    have z2:stN c / 8 % (hs.length:Int)=(stN c / 8+1+stN c / 96 % ((hs.length:Int) - 1)) % (hs.length:Int):=by omega
    have d0:0≤stN c / 96 % ((hs.length:Int) - 1):=Int.emod_nonneg _ (by omega)
    have d1:stN c / 96 % ((hs.length:Int) - 1) < (hs.length:Int) - 1:=Int.emod_lt_of_pos _ (by omega)
    have z3:=Int.emod_eq_emod_iff_emod_sub_eq_zero.mp z2.symm
    rw [show stN c / 8+1+stN c / 96 % ((hs.length:Int) - 1) - stN c / 8=1+stN c / 96 % ((hs.length:Int) - 1) by omega,Int.emod_eq_of_lt (by omega) (by omega)] at z3
    omega
   have isl:s.pr≤1000000000→isLetterD (hD hs) (ltE (hh,s.pr,gg))=true:=fun h=>isL_iff.mpr ⟨hm,gmm,ngg,pr0,h⟩
   refine to_nx ?_
   refine ⟨_,rfl,_,rfl,iteN (decide_eq_false (by show ¬V.int (stN c % 8)=V.int 1;exact fun z=>hb (V.int.inj z))) ?_⟩
   refine ⟨_,rfl,lp,_,rfl,.inl (SqL.of hlp),(by show 2≤sizeLine;decide),fun du ndu=>?_⟩
   have u2:=upd_free (o:=.lst [V.bl true,V.int ((refs prs).length:Int)]) ndu
   have d2:upd H du (.lst [V.bl true,V.int ((refs prs).length:Int)]) du=_:=upd_same
   generalize upd H du (.lst [V.bl true,V.int ((refs prs).length:Int)])=H2 at u2 d2 ⊢
   refine to_nx ?_
   refine ⟨_,rfl,_,rfl,iteN (decide_eq_false (by show ¬V.int (stN c % 8)=V.int 1;exact fun z=>hb (V.int.inj z))) ?_⟩
   refine ⟨_,rfl,_,_,rfl,rfl,⟨by decide,by decide,by decide⟩,_,_,rfl,rfl,_,rfl,?_⟩
   by_cases h9:s.pr > 1000000000
   ·refine iteB (decide_eq_true (by show (10:Int) ^ (Int.toNat 9) < s.pr;exact h9)) ?_
    refine ⟨_,rfl,lp,_,rfl,.inl (SqL.of (u2 _ _ hlp)),(by show 2≤sizeLine;decide),fun du2 ndu2=>?_⟩
    have fb:=bad_some (h:=hh) (g:=gg) Pp (Bool.eq_false_iff.mpr fun z=>by have:=(isL_iff.mp z).2.2.2.2;omega)
    refine refuse _ gg _ _ du2 (u2.trans (upd_free ndu2)) ?_ (fun ar=>?_) (thm gmm)
    ·rw [upd_same,lrp,fb]
     rfl
    ·have:=ar.1
     rw [fb] at this
     cases this
   ·refine iteN (decide_eq_false (by show ¬(10:Int) ^ (Int.toNat 9) < s.pr;exact h9)) ?_
    have il:=isl (by omega)
    have fb:=bad_none Pp il
    have ap:=apart_post Pp hh gg
    have none2:∀(Hc:Hp) (n bd:Option L2.V),Same H Hc→(¬AreL (hD hs) ((s.lds++[(hh,s.pr,gg)]).map ltE))→tAsg (tLst (tCons (tC (V.str (Str.ofString "refused"))) (tCons (tC V.non) tNil))) (gName 9) {nx:=tRet (tOp (rEqD K false) (tCall (spLp CD C CW CN) [] E0 (tCons (tVar 0) (tCons (tVar 6) (tCons (tVar 7) tNil)))) (tVar 9)) {nx:=fun _ H'=>Q .non H',rt:=Q},rt:=Q}
      [some (.ref x),some (.ref lp),some (.ref nm),some (.int c),some (.int s.pr),n,some (.str hh),some (.str gg),bd,some (.ref du)] Hc:=fun Hc n bd sc na=>by
     refine ⟨(by show 2≤sizeLine;decide),fun du2 ndu2=>?_⟩
     refine refuse _ gg _ _ du2 (sc.trans (upd_free ndu2)) ?_ na (thm gmm)
     rw [upd_same,fb]
     rfl
    have accept:∀(Hc:Hp) (n bd:Option L2.V),Same H2 Hc→AreL (hD hs) ((s.lds++[(hh,s.pr,gg)]).map ltE)→tDrop (tBM K "list" rAppend (tVar 1) (tCons (tTup (tCons (tVar 6) (tCons (tVar 4) (tCons (tVar 7) tNil)))) tNil)) {nx:=tRet (tOp (rEqD K false) (tCall (spLp CD C CW CN) [] E0 (tCons (tVar 0) (tCons (tVar 6) (tCons (tVar 7) tNil)))) (tVar 9)) {nx:=fun _ H'=>Q .non H',rt:=Q},rt:=Q}
      [some (.ref x),some (.ref lp),some (.ref nm),some (.int c),some (.int s.pr),n,some (.str hh),some (.str gg),bd,some (.ref du)] Hc:=fun Hc n bd s2c ar=>by
     have sc:=u2.trans s2c
     refine ⟨_,rfl,.inl ⟨rfl,_,SqL.of (sc _ _ hlp)⟩,_,rfl,_,rfl,_,rfl,(by show 3≤sizeLine;decide),fun ta nta=>?_⟩
     have u4:=upd_free (o:=.tup [V.str hh,V.int s.pr,V.str gg]) nta
     have t4:upd Hc ta (.tup [V.str hh,V.int s.pr,V.str gg]) ta=some (.tup (ltT (hh,s.pr,gg))):=upd_same
     generalize upd Hc ta (.tup [V.str hh,V.int s.pr,V.str gg])=H4 at u4 t4 ⊢
     have s4:=sc.trans u4
     have hlp4:=s4 _ _ hlp
     refine ⟨lp,_,_,rfl,rfl,hlp4,small1000 (by rw [refs_len];omega),?_⟩
     rw [refs_snoc]
     have k5:∀b o,b∉[lp]→H4 b=some o→upd H4 lp (.lst (refs (prs++[ta]))) b=some o:=fun b o nb e=>(upd_ne (by simpa using nb)).trans e
     have l5:upd H4 lp (.lst (refs (prs++[ta]))) lp=some (.lst (refs (prs++[ta]))):=upd_same
     have d5:upd H4 lp (.lst (refs (prs++[ta]))) du=_:=(upd_ne (fun z=>by rw [z,hlp] at ndu;cases ndu)).trans (u4 _ _ (s2c _ _ d2))
     have sb5:Same Hb (upd H4 lp (.lst (refs (prs++[ta])))):=upd_other blp (D.sb.trans s4)
     generalize upd H4 lp (.lst (refs (prs++[ta])))=H5 at k5 l5 d5 sb5 ⊢
     have D5:=(D.same s4).frame sb5 k5 (fun b hb z=>nlp (by rw [←List.mem_singleton.mp z];exact hb)) (fun b hb v e=>by rw [List.mem_singleton.mp hb,hlp4] at e;cases e)
     have tp5:Tups H5 (prs++[ta]) ((s.lds++[(hh,s.pr,gg)]).map ltT):=by
      rw [List.map_append]
      have kt:∀b v,H4 b=some (.tup v)→H5 b=some (.tup v):=fun b v e=>k5 _ _ (by simp only [List.mem_singleton];exact L2.ne_of e hlp4 (by intro z;cases z)) e
      exact Paired.snoc (F:=fun r d=>H5 r=some (.tup d)) (kt _ _ t4) (Paired.mapP tp fun _ _ e=>kt _ _ (s4 _ _ e))
     refine ⟨_,rfl,_,rfl,_,rfl,Hb,x,A,hs,ds,s,hh,gg,rfl,D5,G,O.lets,O.l40,O.len,thm hm,thm gmm,fun _ H' A' l mv D' hl=>⟨_,rfl,?_⟩,fun na=>absurd ar na⟩
     have ndu5:du∉A.mu x:=fun z=>by
      have:H du=none:=ndu
      obtain ⟨dy,hy⟩:=D.wy
      unfold DA.mu at z
      simp only [List.mem_cons] at z
      rcases z with h | h | h | h | h | h | h | h | h | h
      ·rw [h,D.ins] at this;cases this
      ·rw [h,D.po] at this;cases this
      ·rw [h,hy] at this;cases this
      ·rw [h,D.wt] at this;cases this
      ·rw [h,D.sh] at this;cases this
      ·rw [h,D.wi] at this;cases this
      ·rw [h,D.wg] at this;cases this
      ·rw [h,D.ws] at this;cases this
      ·rw [h,D.se] at this;cases this
      ·obtain ⟨i,hi,ei⟩:=List.getElem_of_mem h
       obtain ⟨_,_,ts,e,_⟩:=Paired.get D.we (List.getElem?_eq_some_iff.mpr ⟨hi,ei⟩)
       rw [this] at e;cases e
     have hd':=mv.keep _ _ ndu5 d5
     rw [lrp] at hd'
     have cn:(PyData.list [.bool true,.int (s.lds.length:Int)]).canLay0=true:=rfl
     refine ⟨_,_,.lst (SqL.of hl) (.cons (.bl _) (.cons (.int _) .nil)),.lst (SqL.of hd') (.cons (.bl _) (.cons (.int _) .nil)),rfl,rfl,bl_of (eqv_self _ cn) ?_⟩
     have nlp':lp∉A'.mu x:=fun z=>by
      rcases mv.own lp z with h | h
      ·exact nlp h
      ·rw [l5] at h;cases h
     have kt6:∀b v,H5 b=some (.tup v)→H' b=some (.tup v):=fun b v e=>mv.keep _ _ (fun z=>D5.notup z e) e
     refine q H' A' (postS s hh gg) (prs++[ta]) ⟨fun b o nb e=>?_,fun b hb=>?_⟩ D' (O.post hm gmm (by have:=ar.2.1;rw [List.length_map,List.length_append] at this;exact this)) (Pp.post il) rfl (mv.keep _ _ nlp l5) (Paired.mapP tp5 fun _ _ e=>kt6 _ _ e) nlp'
     ·simp only [List.mem_cons,not_or] at nb
      exact mv.keep _ _ nb.2 (k5 _ _ (by simpa using nb.1) (s4 _ _ e))
     ·rcases List.mem_cons.mp hb with rfl | hb
      ·exact .inl (.head _)
      ·rcases mv.own b hb with h | h
       ·exact .inl (.tail _ h)
       ·by_cases z:b=lp
        ·exact .inl (by rw [z];exact .head _)
        ·right
         cases e:H b with
         | none=>rfl
         | some o=>rw [k5 _ _ (by simpa using z) (s4 _ _ e)] at h;cases h
    refine ⟨_,rfl,lp,_,rfl,.inl (SqL.of (u2 _ _ hlp)),rfl,_,rfl,?_⟩
    by_cases h40:s.lds.length=40
    ·refine iteB (decide_eq_true (by rw [lrp,h40];rfl)) ?_
     exact none2 _ _ _ u2 fun ar=>by
      have:=ar.2.1
      rw [List.length_map,List.length_append] at this
      have:s.lds.length+1≤40:=this
      omega
    ·refine iteN (decide_eq_false fun z=>h40 (by have:=V.int.inj z;omega)) ?_
     refine ⟨_,rfl,(by show 0≤sizeLine;decide),fun el nel=>?_⟩
     have u3:=upd_free (o:=.lst []) nel
     have l3:upd H2 el (.lst []) el=some (.lst []):=upd_same
     generalize upd H2 el (.lst [])=H3 at u3 l3 ⊢
     have s3:=u2.trans u3
     have t3:=lts_th G (tp.same s3) O.lets
     refine ⟨_,_,.lst (SqL.of (s3 _ _ hlp)) (Ths.dt t3),.lst (SqL.of l3) .nil,lts_shaped t3,rfl,_,rfl,?_⟩
     have len41:((s.lds++[(hh,s.pr,gg)]).map ltE).length≤40:=by rw [List.length_map,List.length_append];show s.lds.length+1≤40;omega
     cases hls:s.lds with
     | nil=>
      refine iteN (by rfl) (iteF ?_)
      refine accept _ _ _ u3 ⟨fb,len41,?_⟩
      rw [ap,hls]
      simp
     | cons d0 r0=>
      refine iteB (by rfl) ?_
      rw [hls] at tp
      obtain ⟨r1,rr,rfl,hr1⟩:∃r1 rr,prs=r1::rr∧H r1=some (.tup (ltT d0)):=by
       cases tp with
       | cons h _=>exact ⟨_,_,rfl,h⟩
      refine ⟨_,rfl,_,rfl,lp,_,_,_,rfl,rfl,SqL.of (s3 _ _ hlp),atI_nat (j:=0) rfl,r1,_,_,_,rfl,rfl,SqT.of (s3 _ _ hr1),rfl,_,_,rfl,rfl,_,_,rfl,rfl,_,rfl,?_⟩
      rw [hls] at ap
      have ap:apartN (((s.lds++[(hh,s.pr,gg)]).map ltE).map turnD)=s.pr - d0.2.1:=by rw [hls];exact ap
      by_cases h30:(30:Int) < s.pr - d0.2.1
      ·refine iteB (decide_eq_true h30) ?_
       exact none2 _ _ _ s3 fun ar=>by
        have:=ar.2.2
        rw [ap] at this
        omega
      ·refine iteN (decide_eq_false h30) ?_
       exact accept _ _ _ u3 ⟨fb,len41,by rw [ap];omega⟩
end
open PySem L2 L3 M1
theorem h9_of {hs:List (List Nat)} {ds:List M1.Rd} (R:∀d∈ds,d.Ok hs.length):∀e∈eds hs ds,1≤e.t:=fun e he=>by
 obtain ⟨d,hd,rfl⟩:=List.mem_map.mp he
 exact (R d hd).t.1
theorem best_at {hs:List (List Nat)} {ds:List M1.Rd} (R:∀d∈ds,d.Ok hs.length) {h g:Str} {v:Int} (hv:farD hs ds h g=some v) (hn:h≠g):
  ∃(k:Nat) (d:M1.Rd) (u:Int),best hs ds h g=(k:Int)∧ds[k]?=some d∧S (hs.getD d.a [])=h∧farD hs ds (S (hs.getD d.b [])) g=some u∧(d.t:Int)+u=v:=by
 obtain ⟨m,f⟩:=best_mem (h9_of R) hv hn
 obtain ⟨i,hi⟩:=List.getElem?_of_mem (List.mem_map.mpr ⟨_,m,rfl⟩:V.int (best hs ds h g)∈(touch hs ds (·.a) h).map V.int)
 obtain ⟨k,d,e1,e2,e3⟩:=touch_at hi
 have e1':best hs ds h g=(k:Int):=V.int.inj e1
 rw [e1'] at f
 unfold fitB begins toI at f
 rw [Int.toNat_natCast,getD_of e2] at f
 cases hu:farD hs ds (S (hs.getD d.b [])) g with
 | none=>rw [hu] at f;cases f
 | some u=>
  rw [hu,hv] at f
  have:=of_decide_eq_true f
  exact ⟨k,d,u,e1',e2,e3,hu,Option.some.inj this⟩
theorem valV_in {κ:Type} [DecidableEq κ] {kvs:List (κ × L2.V)} {k:κ} {v:L2.V} (h:valV kvs k=some v):k∈kvs.map (·.1):=by
 obtain ⟨j,x,e⟩:=valV_memE (show (valV kvs k).isSome=true by rw [h];rfl)
 exact List.mem_map.mpr ⟨_,List.mem_of_getElem? e,rfl⟩
theorem ShortTab.get {hs:List (List Nat)} {ds:List M1.Rd} {kvs:DTs} (T:ShortTab hs ds kvs) {k:List Key} {v:L2.V} (e:valV kvs k=some v):∃h g,k=pk h g∧h∈hs.map S∧g∈hs.map S∧h≠g∧(farD hs ds h g).isSome=true∧v=.int (best hs ds h g):=by
 obtain ⟨h,g,rfl,mh,mg⟩:=T.bst.key k (valV_in e)
 by_cases m:h∈hs.map S∧h≠g∧(farD hs ds h g).isSome=true
 ·have:=T.bst.yes h g m
  rw [e] at this
  exact ⟨h,g,rfl,mh,mg,m.2.1,m.2.2,Option.some.inj this⟩
 ·rw [T.bst.no h g m] at e
  cases e
theorem ShortTab.ok {hs:List (List Nat)} {ds:List M1.Rd} {kvs:DTs} (T:ShortTab hs ds kvs) (R:∀d∈ds,d.Ok hs.length):TabOk kvs ds.length:=⟨fun k v e=>by
 obtain ⟨h,g,rfl,mh,mg,ne,is,rfl⟩:=T.get e
 obtain ⟨u,hu⟩:=Option.isSome_iff_exists.mp is
 obtain ⟨i,d,_,e1,e2,_⟩:=best_at R hu ne
 exact ⟨i,by rw [e1],(List.getElem?_eq_some_iff.mp e2).1⟩⟩
end K1
set_option maxHeartbeats 8000000
namespace K1
open PySem L2 L3 M1
theorem DayAt.has {CD C CW CN:Addr} {Hb H:Hp} {x:Addr} {A:DA} {hs:List (List Nat)} {ds:List M1.Rd} {s:DayS} (D:DayAt CD C CW CN Hb H x A hs ds s) {b:Addr} (hb:b∈A.mu x):H b≠none:=fun e=>by
 obtain ⟨dy,hy⟩:=D.wy
 unfold DA.mu at hb
 simp only [List.mem_cons] at hb
 rcases hb with rfl | rfl | rfl | rfl | rfl | rfl | rfl | rfl | rfl | hb
 ·rw [D.ins] at e;cases e
 ·rw [D.po] at e;cases e
 ·rw [hy] at e;cases e
 ·rw [D.wt] at e;cases e
 ·rw [D.sh] at e;cases e
 ·rw [D.wi] at e;cases e
 ·rw [D.wg] at e;cases e
 ·rw [D.ws] at e;cases e
 ·rw [D.se] at e;cases e
 ·obtain ⟨i,hi,ei⟩:=List.getElem_of_mem hb
  obtain ⟨_,_,ts,h1,_⟩:=Paired.get D.we (List.getElem?_eq_some_iff.mpr ⟨hi,ei⟩)
  rw [h1] at e;cases e
theorem DayAt.rebase {CD C CW CN:Addr} {Hb Hc H:Hp} {x:Addr} {A:DA} {hs:List (List Nat)} {ds:List M1.Rd} {s:DayS} (D:DayAt CD C CW CN Hb H x A hs ds s) (sc:Same Hc H) (up:Same Hb Hc) (fr:∀b∈A.mu x,Hc b=none):DayAt CD C CW CN Hc H x A hs ds s:=
 ⟨sc,D.net.same up,D.rds.same up,D.ins,D.po,D.pt,D.wy,D.wt,D.sh,D.wi,D.wg,D.ws,D.we,D.se,D.sp,D.nd,fr⟩
theorem DayAt.rebase' {CD C CW CN:Addr} {Hb Hc H:Hp} {x n a' b':Addr} {rs:List Addr} {A:DA} {hs:List (List Nat)} {ds:List M1.Rd} {s:DayS} (D:DayAt CD C CW CN Hb H x A hs ds s) (sc:Same Hc H) (en:A.n=n) (er:A.rs=rs) (N:NetAt CN Hc n a' b' (txs hs) (refs rs)) (R:RoadsAt Hc hs rs ds) (fr:∀b∈A.mu x,Hc b=none):DayAt CD C CW CN Hc H x A hs ds s:=by
 subst en er
 obtain ⟨d1,h1⟩:=D.net.ins
 obtain ⟨d2,h2⟩:=N.ins
 have e1:=D.sb _ _ h1
 rw [sc _ _ h2] at e1
 cases e1
 exact ⟨sc,N,R,D.ins,D.po,D.pt,D.wy,D.wt,D.sh,D.wi,D.wg,D.ws,D.we,D.se,D.sp,D.nd,fr⟩
structure St71 (CD C CW CN:Addr) (Hb H:Hp) (hs:List (List Nat)) (ds:List M1.Rd) (x y lp p1:Addr) (A2:DA) (s2:DayS) (A:DA) (s:DayS) (k:Nat) (prs:List Addr):Prop where
 d:DayAt CD C CW CN Hb H x A hs ds s
 e:DayAt CD C CW CN Hb H y A2 hs ds s2
 ok:DayOk hs ds k s
 po:Posted hs s
 pr:0≤s.pr
 nm:Hb p1=some (.lst (txs hs))
 li:H lp=some (.lst (refs prs))
 tp:Tups H prs (s.lds.map ltT)
 nl:lp∉A.mu x
 bl:Hb lp=none
 dj:∀b∈A2.mu y,b≠lp∧b∉A.mu x
section
variable {CD C CW CN:Addr} {Hb H H':Hp} {hs:List (List Nat)} {ds:List M1.Rd} {x y lp p1:Addr} {A2:DA} {s2:DayS} {A A':DA} {s s':DayS} {k k':Nat} {prs prs':List Addr}
theorem St71.same (S:St71 CD C CW CN Hb H hs ds x y lp p1 A2 s2 A s k prs) (sm:Same H H'):St71 CD C CW CN Hb H' hs ds x y lp p1 A2 s2 A s k prs:=
 ⟨S.d.same sm,S.e.same sm,S.ok,S.po,S.pr,S.nm,sm _ _ S.li,S.tp.same sm,S.nl,S.bl,S.dj⟩
theorem St71.go (S:St71 CD C CW CN Hb H hs ds x y lp p1 A2 s2 A s k prs) (mv:Mv (lp::A.mu x) (lp::A'.mu x) H H') (D':DayAt CD C CW CN Hb H' x A' hs ds s') (O':DayOk hs ds k' s') (P':Posted hs s') (r':0≤s'.pr) (li':H' lp=some (.lst (refs prs'))) (tp':Tups H' prs' (s'.lds.map ltT)) (nl':lp∉A'.mu x):
  St71 CD C CW CN Hb H' hs ds x y lp p1 A2 s2 A' s' k' prs':=by
 refine ⟨D',S.e.frame D'.sb mv.keep (fun b hb z=>?_) (fun b hb v e=>?_),O',P',r',S.nm,li',tp',nl',S.bl,fun b hb=>⟨(S.dj b hb).1,fun z=>?_⟩⟩
 ·rcases List.mem_cons.mp z with z | z
  ·exact (S.dj b hb).1 z
  ·exact (S.dj b hb).2 z
 ·rcases List.mem_cons.mp hb with rfl | hb
  ·rw [S.li] at e;cases e
  ·exact S.d.notup hb e
 ·rcases mv.own b (.tail _ z) with h | h
  ·rcases List.mem_cons.mp h with h | h
   ·exact (S.dj b hb).1 h
   ·exact (S.dj b hb).2 h
  ·exact S.e.has hb h
theorem St71.pass (R:∀d∈ds,d.Ok hs.length) (S:St71 CD C CW CN Hb H hs ds x y lp p1 A2 s2 A s k prs) (mv:Mv (A.mu x) (A'.mu x) H H') (D':DayAt CD C CW CN Hb H' x A' hs ds (passS hs ds s)):St71 CD C CW CN Hb H' hs ds x y lp p1 A2 s2 A' (passS hs ds s) (k+1) prs:=by
 have nl':lp∉A'.mu x:=fun z=>by
  rcases mv.own lp z with h | h
  ·exact S.nl h
  ·rw [S.li] at h;cases h
 refine S.go (A':=A') (s':=passS hs ds s) (k':=k+1) (prs':=prs) ⟨fun b o nb e=>mv.keep b o (fun z=>nb (.tail _ z)) e,fun b hb=>?_⟩ D' (S.ok.pass R) S.po.pass (by show 0≤s.pr+1;have:=S.pr;omega) (mv.keep _ _ S.nl S.li) (Paired.mapP S.tp fun _ _ e=>mv.keep _ _ (fun z=>S.d.notup z e) e) nl'
 rcases List.mem_cons.mp hb with rfl | hb
 ·exact .inl (.head _)
 ·rcases mv.own b hb with h | h
  ·exact .inl (.tail _ h)
  ·exact .inr h
noncomputable def St71.base (H:Hp) (lp x y:Addr) (A A2:DA):Hp:=mask H (lp::(A.mu x++A2.mu y))
theorem St71.re (S:St71 CD C CW CN Hb H hs ds x y lp p1 A2 s2 A s k prs):St71 CD C CW CN (St71.base H lp x y A A2) H hs ds x y lp p1 A2 s2 A s k prs∧∀b o,H b=some o→b≠lp→b∉A.mu x→b∉A2.mu y→St71.base H lp x y A A2 b=some o:=by
 have up:Same Hb (St71.base H lp x y A A2):=fun b o e=>mask_at (S.d.sb _ _ e) fun z=>by
  rcases List.mem_cons.mp z with z | z
  ·rw [z,S.bl] at e;cases e
  ·rcases List.mem_append.mp z with z | z
   ·rw [S.d.fr b z] at e;cases e
   ·rw [S.e.fr b z] at e;cases e
 refine ⟨⟨S.d.rebase (mask_same _ _) up fun b hb=>mask_no (.tail _ (List.mem_append.mpr (.inl hb))),S.e.rebase (mask_same _ _) up fun b hb=>mask_no (.tail _ (List.mem_append.mpr (.inr hb))),S.ok,S.po,S.pr,up _ _ S.nm,S.li,S.tp,S.nl,mask_no (.head _),S.dj⟩,fun b o e n1 n2 n3=>mask_at e fun z=>?_⟩
 rcases List.mem_cons.mp z with z | z
 ·exact n1 z
 ·rcases List.mem_append.mp z with z | z
  ·exact n2 z
  ·exact n3 z
end
end K1
set_option maxHeartbeats 8000000
namespace K1
open PySem L2 L3 M1
theorem odd_housesN {c:Int} {m:Nat} (h:m≤12):OddOk (housesN c m):=by
 have G:=housesN_good (c:=c) h
 have all:∀y∈(housesN c m).map S,∃l,y=S l∧l.length=hsz c∧Nm l:=fun y hy=>by
  obtain ⟨l,hl,rfl⟩:=List.mem_map.mp hy
  refine ⟨l,rfl,?_,G.nm l hl⟩
  unfold housesN at hl
  obtain ⟨k,_,rfl⟩:=List.mem_map.mp hl
  unfold hnm
  rw [List.length_map,List.length_range]
 have z:=hsz_ok c
 have sx:Str.ofString "x"=S [120]:=by decide+kernel
 have sA:Str.ofString "A"=S [65]:=by decide+kernel
 have s0:Str.ofString ""=S []:=by decide+kernel
 refine ⟨fun hy=>?_,fun hy=>?_,fun y hy hx=>?_,fun y hy H=>?_⟩
 ·obtain ⟨l,e,hl,_⟩:=all _ hy
  rw [s0] at e
  have:=S_inj e
  rw [←this] at hl
  simp at hl
  omega
 ·obtain ⟨l,e,hl,n⟩:=all _ hy
  rw [sA] at e
  have:=S_inj e
  have:=n.2.2 65 (by rw [←this];exact .head _)
  omega
 ·obtain ⟨l,rfl,hl,_⟩:=all _ hy
  obtain ⟨l',e,hl',_⟩:=all _ hx
  rw [sx,S_app] at e
  have:=congrArg List.length (S_inj e)
  rw [List.length_append] at this
  simp at this
  omega
 ·obtain ⟨l,rfl,hl,n⟩:=all _ hy
  rw [sx,S_app]
  refine .str _ (by rw [S_len,List.length_append];simp;omega) ?_
  have:∀k∈l++[120],k < 128:=fun k hk=>by
   rcases List.mem_append.mp hk with z | z
   ·have:=(n.2.2 k z).2;omega
   ·rw [List.mem_singleton.mp z];decide
  simp only [PyData.strOk,S]
  rw [List.all_toArray,List.all_eq_true]
  intro k hk
  have:=this k hk
  simp
  omega
section
variable {P:Program} {w:World} {K:PySem.W.Frag} {mg:Str→Option Value} {base:Heap}
noncomputable abbrev sLaw:Stmt:=top 51
noncomputable abbrev nLaw71:List Str:=["_law_script","_law_names","_law_cells","_law_lines","_law_first","_law_net","_law_day","_law_beside","_law_posted","_law_now","_law_cell","_law_ends","_law_k"]
theorem scLaw:FnScope nLaw71 ["_law_script"] (defScope sLaw):=⟨rfl,rfl,rfl,by decide+kernel,rfl,by decide+kernel,by decide+kernel⟩
theorem ok_law {CD C CW CN NL f fa fh fl fi fj fs ft fp fq:Addr} {fd fda fdh fdl fdi fdj fds fdt fdp fdq:FuncData} (F:Fun K "law" "law" sLaw f fd) (B:Blt mg) (at_Net:mg "Net"=some (.ref CN)) (at_Day:mg "Day"=some (.ref CD)) (Cl_Day:Cls K CD)
  (D__law_cell_at:Dn K mg "_law_cell_at" sAt ["_law_script","_law_k"] fa fda) (G__law_cell_at:FnOk P w K mg base CX0 1 fa fda ["_law_script","_law_k"] (spAt K))
  (D__law_houses:Dn K mg "_law_houses" sHousesN ["_law_cell","_law_many"] fh fdh) (G__law_houses:FnOk P w K mg base CX0 1 fh fdh ["_law_cell","_law_many"] spHousesN)
  (D__law_road:Dn K mg "_law_road" sRd1 ["_law_cell","_law_names"] fl fdl) (G__law_road:FnOk P w K mg base CX0 1 fl fdl ["_law_cell","_law_names"] spRd1)
  (Mk_Net:Mk K CN fi) (D_Net_init:Inn K CN "Net.__init__" sInit ["self","houses","roads"] fi fdi) (G_Net_init:FnOk P w K mg base CX0 5 fi fdi ["self","houses","roads"] (spInit K CN))
  (Mk_Day:Mk K CD fj) (D_Day_init:Inn K CD "Day.__init__" sDyI ["self","net","first"] fj fdj) (G_Day_init:FnOk P w K mg base CX0 5 fj fdj ["self","net","first"] (spDyI CD C CW CN))
  (D__law_step:Dn K mg "_law_step" sSt ["_law_day","_law_posted","_law_names","_law_cell","_law_now"] fs fds) (G__law_step:FnOk P w K mg base CX0 7 fs fds ["_law_day","_law_posted","_law_names","_law_cell","_law_now"] (spSt CD C CW CN))
  (D__law_right:Dn K mg "_law_right" sRi ["_law_day","_law_posted","_law_now"] ft fdt) (G__law_right:FnOk P w K mg base CX0 2 ft fdt ["_law_day","_law_posted","_law_now"] (spRi CD C CW CN))
  (M_Day_pass_turn:Mn K CD "pass_turn" "Day.pass_turn" sPass ["self"] fp fdp) (G_Day_pass_turn:FnOk P w K mg base CX0 6 fp fdp ["self"] (spPass K CD C CW CN))
  (M_Day_post:Mn K CD "post" "Day.post" sPost ["self","house","goal"] fq fdq) (G_Day_post:FnOk P w K mg base (CXd P w) 5 fq fdq ["self","house","goal"] (spPost CD C CW CN NL)):
  FnOk P w K mg base CX0 8 f fd ["_law_script"] (spLaw K):=by
 refine F.ok scLaw (fun vs H Q E h=>?_) (fun cdv A outer s H vs Q E hr h=>?_)
 ·obtain ⟨a,ns,rfl,_⟩:=h
  rfl
 ·obtain ⟨a,ns,rfl,hS,hns,q⟩:=h
  obtain ⟨m,hm⟩:∃m:Nat,2+ns.getD (1:Int).toNat 0 % 5=(m:Int):=⟨(2+ns.getD (1:Int).toNat 0 % 5).toNat,by omega⟩
  have hm2:2≤m∧m≤6:=by omega
  obtain ⟨hs,ehs⟩:∃hs,hs=housesN (ns.getD (0:Int).toNat 0) m:=⟨_,rfl⟩
  have G:Good hs:=by rw [ehs];exact housesN_good (by omega)
  have OK:OddOk hs:=by rw [ehs];exact odd_housesN (by omega)
  have hl:hs.length=m:=by rw [ehs,housesN_len]
  refine ⟨_,(pss_cons (ps_set (i:=1) scLaw.nd rfl (Or.inr rfl) (pe_call G__law_houses (hr.mono (by decide)) (by rfl) D__law_houses.at_ D__law_houses.fn.kp D__law_houses.bd .nil pass0 (pa_cons (pe_call G__law_cell_at (hr.mono (by decide)) (by rfl) D__law_cell_at.at_ D__law_cell_at.fn.kp D__law_cell_at.bd .nil pass0 (pa_cons (pv 0) (pa_cons pe_int pa_nil))) (pa_cons (pe_op op_add pe_int (pe_op op_mod (pe_call G__law_cell_at (hr.mono (by decide)) (by rfl) D__law_cell_at.at_ D__law_cell_at.fn.kp D__law_cell_at.bd .nil pass0 (pa_cons (pv 0) (pa_cons pe_int pa_nil))) pe_int)) pa_nil))))
   (pss_cons (ps_setLC (i:=2) scLaw.nd rfl rfl rfl (N':=["_law_k","_law_script"]) (cs:=[none,some 0]) rfl (pi_range1 rfl B.range (pa_cons (pe_op op_add pe_int (pe_op op_mod (pe_op op_fdiv (pe_call G__law_cell_at (hr.mono (by decide)) (by rfl) D__law_cell_at.at_ D__law_cell_at.fn.kp D__law_cell_at.bd .nil pass0 (pa_cons (pv 0) (pa_cons pe_int pa_nil))) pe_int) pe_int)) pa_nil)) rfl (by decide+kernel) rfl (by decide+kernel) (sub_of (List.forall_mem_cons.mpr ⟨rfl,(fun p hp=>absurd hp (List.not_mem_nil))⟩)) rfl
    (.own (.cap rfl (.inl rfl) (.inl rfl) rfl .nil))
    (fun C s3 H3 fp pn=>⟨(pg_name (i:=0) (by show (["_law_k","_law_script"]:List Str).Nodup;decide+kernel) rfl (.inl rfl)),pif_nil,(pe_op op_add (pe_call G__law_cell_at (hr.mono (by decide)) (by rfl) D__law_cell_at.at_ D__law_cell_at.fn.kp D__law_cell_at.bd .nil pass0 (pa_cons (pv 1) (pa_cons (pe_op op_add pe_int (pv 0)) pa_nil))) (pe_op op_mul (pe_op op_mul pe_int (pv 0)) (pv 0)))⟩))
   (pss_cons (ps_setLC (i:=3) scLaw.nd rfl rfl rfl (N':=["_law_cell","_law_names"]) (cs:=[none,some 1]) rfl (pi_list (pv 2)) rfl (by decide+kernel) rfl (by decide+kernel) (sub_of (List.forall_mem_cons.mpr ⟨rfl,(fun p hp=>absurd hp (List.not_mem_nil))⟩)) rfl
    (.own (.cap rfl (.inl rfl) (.inl rfl) rfl .nil))
    (fun C s3 H3 fp pn=>⟨(pg_name (i:=0) (by show (["_law_cell","_law_names"]:List Str).Nodup;decide+kernel) rfl (.inl rfl)),pif_nil,(pe_call G__law_road (hr.mono (by decide)) (by rfl) D__law_road.at_ D__law_road.fn.kp D__law_road.bd .nil pass0 (pa_cons (pv 0) (pa_cons (pv 1) pa_nil)))⟩))
   (pss_cons (ps_set (i:=4) scLaw.nd rfl (Or.inl rfl) (pe_op op_mod (pe_call G__law_cell_at (hr.mono (by decide)) (by rfl) D__law_cell_at.at_ D__law_cell_at.fn.kp D__law_cell_at.bd .nil pass0 (pa_cons (pv 0) (pa_cons pe_int pa_nil))) (pe_op op_add (pe_op op_pow pe_int pe_int) pe_int)))
   (pss_cons (ps_if (pt_cmpR op_eq (pe_op op_mod (pe_op op_fdiv (pe_call G__law_cell_at (hr.mono (by decide)) (by rfl) D__law_cell_at.at_ D__law_cell_at.fn.kp D__law_cell_at.bd .nil pass0 (pa_cons (pv 0) (pa_cons pe_int pa_nil))) pe_int) pe_int) pe_int (nomark _)) (pss_one (ps_set (i:=4) scLaw.nd rfl (Or.inl rfl) (pe_op op_sub (pe_op op_pow pe_int pe_int) (pe_op op_mod (pe_call G__law_cell_at (hr.mono (by decide)) (by rfl) D__law_cell_at.at_ D__law_cell_at.fn.kp D__law_cell_at.bd .nil pass0 (pa_cons (pv 0) (pa_cons pe_int pa_nil))) pe_int)))) pss_nil)
   (pss_cons (ps_set (i:=5) scLaw.nd rfl (Or.inl rfl) (pe_make Mk_Net G_Net_init (hr.mono (by decide)) (by rfl) at_Net D_Net_init.bd .nil pass0 (pa_cons (pv 1) (pa_cons (pv 3) pa_nil))))
   (pss_cons (ps_set (i:=6) scLaw.nd rfl (Or.inl rfl) (pe_make Mk_Day G_Day_init (hr.mono (by decide)) (by rfl) at_Day D_Day_init.bd .nil pass0 (pa_cons (pv 5) (pa_cons (pv 4) pa_nil))))
   (pss_cons (ps_set (i:=7) scLaw.nd rfl (Or.inl rfl) (pe_make Mk_Day G_Day_init (hr.mono (by decide)) (by rfl) at_Day D_Day_init.bd .nil pass0 (pa_cons (pv 5) (pa_cons pe_int pa_nil))))
   (pss_cons (ps_set (i:=8) scLaw.nd rfl (Or.inl rfl) (pe_lst pa_nil))
   (pss_cons (ps_set (i:=9) scLaw.nd rfl (Or.inl rfl) (pv 4))
   (pss_cons (ps_for PassesOwn.never rfl (pi_list (pe_slice sl_list (pv 0) (po_some pe_int) (po_some pe_int))) (pg_name (i:=10) scLaw.nd rfl (Or.inl rfl))
    (pss_cons (ps_if (pt_cmpR op_eq (pe_op op_mod (pe_op op_mod (pe_op op_mul (pv 10) pe_int) pe_int) pe_int) pe_int (nomark _)) (pss_cons (ps_expr (pe_meth0 (pv 6) Cl_Day M_Day_pass_turn.me G_Day_pass_turn (hr.mono (by decide)) M_Day_pass_turn.bd .nil pass0))
   (pss_one (ps_set (i:=9) scLaw.nd rfl (Or.inl rfl) (pe_op op_add (pv 9) pe_int)))) (pss_one (ps_if (pt_not (pt_val (pe_call G__law_step (hr.mono (by decide)) (by rfl) D__law_step.at_ D__law_step.fn.kp D__law_step.bd .nil pass0 (pa_cons (pv 6) (pa_cons (pv 8) (pa_cons (pv 1) (pa_cons (pv 10) (pa_cons (pv 9) pa_nil)))))))) (pss_one (ps_ret pe_bl)) pss_nil)))
   (pss_one (ps_if (pt_not (pt_val (pe_call G__law_right (hr.mono (by decide)) (by rfl) D__law_right.at_ D__law_right.fn.kp D__law_right.bd .nil pass0 (pa_cons (pv 6) (pa_cons (pv 8) (pa_cons (pv 9) pa_nil)))))) (pss_one (ps_ret pe_bl)) pss_nil))))
   (pss_cons (ps_set (i:=11) scLaw.nd rfl (Or.inl rfl) (pe_op op_rep (pe_lst (pa_cons pe_int pa_nil)) pe_int))
   (pss_cons (ps_if (pt_cmpR op_eq (pe_op op_mod (pe_op op_fdiv (pe_call G__law_cell_at (hr.mono (by decide)) (by rfl) D__law_cell_at.at_ D__law_cell_at.fn.kp D__law_cell_at.bd .nil pass0 (pa_cons (pv 0) (pa_cons pe_int pa_nil))) pe_int) pe_int) pe_int (nomark _)) (pss_one (ps_set (i:=11) scLaw.nd rfl (Or.inl rfl) (pe_op op_cat (pe_op op_cat (pe_lst (pa_cons pe_int pa_nil)) (pe_op op_rep (pe_lst (pa_cons pe_int pa_nil)) pe_int)) (pe_lst (pa_cons pe_int pa_nil))))) pss_nil)
   (pss_cons (ps_for PassesOwn.never rfl (pi_list (pv 11)) (pg_name (i:=12) scLaw.nd rfl (Or.inl rfl))
    (pss_one (ps_if (pt_cmpR op_eq (pv 12) pe_int (nomark _)) (pss_cons (ps_expr (pe_meth0 (pv 6) Cl_Day M_Day_pass_turn.me G_Day_pass_turn (hr.mono (by decide)) M_Day_pass_turn.bd .nil pass0))
   (pss_one (ps_set (i:=9) scLaw.nd rfl (Or.inl rfl) (pe_op op_add (pv 9) pe_int)))) (pss_one (ps_if (pt_not (pt_val (pe_call G__law_step (hr.mono (by decide)) (by rfl) D__law_step.at_ D__law_step.fn.kp D__law_step.bd .nil pass0 (pa_cons (pv 6) (pa_cons (pv 8) (pa_cons (pv 1) (pa_cons (pv 12) (pa_cons (pv 9) pa_nil)))))))) (pss_one (ps_ret pe_bl)) pss_nil)))))
   (pss_cons (ps_if (PW.pt (pw_or (pt_not (pt_val (pe_call G__law_right (hr.mono (by decide)) (by rfl) D__law_right.at_ D__law_right.fn.kp D__law_right.bd .nil pass0 (pa_cons (pv 6) (pa_cons (pv 8) (pa_cons (pv 9) pa_nil)))))) (pw_or1 (pt_not (pt_val (pe_call G__law_right (hr.mono (by decide)) (by rfl) D__law_right.at_ D__law_right.fn.kp D__law_right.bd .nil pass0 (pa_cons (pv 7) (pa_cons (pe_lst pa_nil) (pa_cons pe_int pa_nil))))))))) (pss_one (ps_ret pe_bl)) pss_nil)
   (pss_one (ps_ret (pe_and (pe_cmpR op_eq (pe_meth (pv 7) Cl_Day M_Day_post.me G_Day_post (hr.mono (by decide)) M_Day_post.bd .nil passD (pa_cons (pe_ix ix_list (pv 1) pe_int (fun _ _=>rfl)) (pa_cons (pe_ix ix_list (pv 1) pe_int (fun _ _=>rfl)) pa_nil))) pe_int (nomark _)) (pe_one (pe_call G__law_right (hr.mono (by decide)) (by rfl) D__law_right.at_ D__law_right.fn.kp D__law_right.bd .nil pass0 (pa_cons (pv 6) (pa_cons (pv 8) (pa_cons (pv 9) pa_nil))))))))))))))))))))))),?_⟩
  refine ⟨_,rfl,a,ns,0,rfl,hS,by decide,_,rfl,a,ns,1,rfl,hS,by decide,_,_,rfl,rfl,(by show (0:Int) < 5;decide),_,_,rfl,rfl,ns.getD (0:Int).toNat 0,m,?_,by omega,fun p1 H1 np1 s1 h1=>?_⟩
  ·show [V.int _,V.int (2+ns.getD (1:Int).toNat 0 % 5)]=_
   rw [hm]
  rw [←ehs] at h1
  have hS1:=s1.seq hS
  obtain ⟨mm,hmm⟩:∃mm:Nat,1+ns.getD (1:Int).toNat 0 / 5 % 8=(mm:Int):=⟨(1+ns.getD (1:Int).toNat 0 / 5 % 8).toNat,by omega⟩
  have mm8:mm≤8:=by omega
  obtain ⟨cl,ecl⟩:∃cl:Nat→Int,cl=fun i:Nat=>ns.getD (3+(i:Int)).toNat 0+31 * (i:Int) * (i:Int):=⟨_,rfl⟩
  dsimp only [tSeq,tAsg,gName]
  refine tlc_idx (J:=Itr 0 mm) (H1:=H1) (xs:=(List.range mm).map fun i:Nat=>V.int (0+(i:Int))) (rest:=[some (.ref a)]) (fun R h=>⟨_,rfl,a,ns,1,rfl,hS1,by decide,_,_,rfl,rfl,⟨by decide,by decide⟩,_,_,rfl,rfl,(by show (0:Int) < 8;decide),_,_,rfl,rfl,_,rfl,?_,?_,?_⟩) rfl (wk_range 0 mm) (small1000 (by simp;omega)) (fun i=>.int (cl i)) (fun i v H2 R ev sm k=>?_) (fun Dc H2 nDc hDc s12=>?_)
  ·show -2 ^ 62≤1+ns.getD (1:Int).toNat 0 / 5 % 8
   omega
  ·show 1+ns.getD (1:Int).toNat 0 / 5 % 8 < 2 ^ 62
   omega
  ·show R (Itr 0 (1+ns.getD (1:Int).toNat 0 / 5 % 8).toNat) H1
   rw [hmm,Int.toNat_natCast]
   exact h
  ·have hi:i < mm∧v=.int (0+(i:Int)):=by
    rw [List.getElem?_map] at ev
    obtain ⟨j,ej,rfl⟩:=Option.map_eq_some_iff.mp ev
    obtain ⟨h1',h2'⟩:=List.getElem?_eq_some_iff.mp ej
    rw [List.getElem_range] at h2'
    subst h2'
    rw [List.length_range] at h1'
    exact ⟨h1',rfl⟩
   obtain ⟨hi,rfl⟩:=hi
   refine ⟨_,rfl,_,rfl,_,_,rfl,rfl,a,ns,3+(0+(i:Int)),rfl,sm.seq hS1,by omega,_,rfl,_,_,rfl,rfl,.inl ⟨by decide,by decide⟩,_,rfl,_,_,rfl,rfl,.inr ⟨by show -(2 ^ 64) < 0+(i:Int);omega,by show 0+(i:Int) < 2 ^ 64;omega⟩,_,_,rfl,rfl,?_⟩
   have:=k H2 (Same.refl _)
   rw [ecl] at this
   simp only [Int.zero_add]
   exact this
  have lx:((List.range mm).map fun i:Nat=>V.int (0+(i:Int))).length=mm:=by simp
  rw [lx] at hDc
  obtain ⟨cs,ecs⟩:∃cs:List Int,cs=(List.range mm).map cl:=⟨_,rfl⟩
  have hDc:H2 Dc=some (.lst (cs.map V.int)):=by rw [hDc,ecs,List.map_map];rfl
  have lcs:cs.length=mm:=by rw [ecs];simp
  obtain ⟨ds,eds⟩:∃ds:List M1.Rd,ds=cs.map fun c=>mrd hs.length c:=⟨_,rfl⟩
  have hds:∀d∈ds,d.Ok hs.length:=fun d hd=>by
   rw [eds] at hd
   obtain ⟨c,_,rfl⟩:=List.mem_map.mp hd
   exact mrd_ok (by omega) c
  have lds:ds.length=mm:=by rw [eds,List.length_map,lcs]
  have h12:=s12 _ _ h1
  refine tlc_tup (J:=Itl K Dc) (H1:=H2) (xs:=cs.map V.int) (rest:=[some (.ref p1)]) (fun R h=>⟨_,rfl,Dc,rfl,⟨_,SqL.of hDc⟩,h⟩) rfl (wk_list (SqL.of hDc)) (small1000 (by rw [List.length_map];omega)) (fun v=>match v with | .int c=>rdV hs (mrd hs.length c) | _=>[]) (fun i y H3 R ey sm kk=>?_) (fun D2 H3 rs nD2 hD2 tp s23=>?_)
  ·obtain ⟨c,_,rfl⟩:=List.mem_map.mp (List.mem_of_getElem? ey)
   exact ⟨_,rfl,_,rfl,c,p1,hs,rfl,sm _ _ h12,by omega,by omega,fun r2 nr2=>kk r2 _ (upd_free nr2) upd_same⟩
  have tp2:Tups H3 rs (ds.map (rdV hs)):=by
   rw [eds,List.map_map]
   rw [List.map_map] at tp
   exact tp
  have hR:RoadsAt H3 hs rs ds:=⟨tp2,hds⟩
  have few:rs.length≤8:=by rw [hR.len,lds];omega
  have h13:=s23 _ _ h12
  have hS3:=s23.seq (s12.seq hS1)
  refine ⟨_,rfl,a,ns,2,rfl,hS3,by decide,_,_,rfl,rfl,⟨by decide,by decide,by decide⟩,_,_,rfl,rfl,_,_,rfl,rfl,(by show (0:Int) < 10 ^ (9:Int).toNat+1;decide),?_⟩
  refine ends_of (t:=tIfS _ _ _) (fun D'=>∀fv:Int,0≤fv→fv≤1000000000→D'.nx [some (.ref a),some (.ref p1),some (.ref Dc),some (.ref D2),some (.int fv),none,none,none,none,none,none,none,none] H3) ?_ fun D' rest=>?_
  ·intro fv f0 f1
   refine ⟨_,rfl,_,rfl,fun n dn nn ndn _=>?_⟩
   have mk:∀{b:Addr} {v:HO},H3 b=some v→upd (upd H3 dn (.own n)) n (.ins CN dn []) b=some v:=fun {b v} e=>by
    rw [upd_ne (ne_of_none e nn),upd_ne (ne_of_none e ndn)]
    exact e
   refine ⟨n,dn,p1,D2,hs,rs,ds,rfl,upd_same,mk h13,G,mk hD2,hR.same (fun b v e=>mk e),(by omega),fun H4 a' b' sb hx4 ha4 hb4 na nb=>⟨rfl,?_⟩⟩
   have s34:Same H3 H4:=make_same nn ndn sb
   have net:NetAt CN H4 n a' b' (txs hs) (refs rs):=⟨⟨dn,hx4⟩,ha4,hb4⟩
   have hR4:=hR.same s34
   have hS4:=s34.seq hS3
   have h14:=s34 _ _ h13
   refine ⟨_,rfl,_,rfl,fun x dx nx ndx _=>?_⟩
   have mk2:Same H4 (upd (upd H4 dx (.own x)) x (.ins CD dx [])):=fun b v e=>by
    rw [upd_ne (ne_of_none e nx),upd_ne (ne_of_none e ndx)]
    exact e
   refine ⟨x,dx,n,a',b',hs,rs,ds,fv,rfl,upd_same,net.same mk2,G,hR4.same mk2,(by omega),fun H5 A1 k1 sb1 D1 en1 er1 ST1 own1=>⟨rfl,?_⟩⟩
   have s45:Same H4 H5:=make_same nx ndx sb1
   refine ⟨_,rfl,fun y dy ny ndy _=>?_⟩
   have mk3:Same H5 (upd (upd H5 dy (.own y)) y (.ins CD dy [])):=fun b v e=>by
    rw [upd_ne (ne_of_none e ny),upd_ne (ne_of_none e ndy)]
    exact e
   refine ⟨y,dy,n,a',b',hs,rs,ds,5,rfl,upd_same,(net.same s45).same mk3,G,(hR4.same s45).same mk3,(by omega),fun H6 A2 k2 sb2 E2 en2 er2 ST2 own2=>⟨rfl,?_⟩⟩
   have s56:Same H5 H6:=make_same ny ndy sb2
   refine ⟨(by show 0≤sizeLine;decide),fun lp nlp=>?_⟩
   have u7:=upd_free (o:=.lst []) nlp
   have l7:upd H6 lp (.lst []) lp=some (.lst (refs [])):=upd_same
   generalize upd H6 lp (.lst [])=H7 at u7 l7 ⊢
   refine ⟨_,rfl,?_⟩
   have s46:=s45.trans s56
   have s47:=s46.trans u7
   have non:∀{Ha Hc:Hp} {b:Addr},Same Ha Hc→Hc b=none→Ha b=none:=fun {Ha Hc b} sm e=>by
    cases e2:Ha b with
    | none=>rfl
    | some o=>rw [sm _ _ e2] at e;cases e
   have o1:∀b∈A1.mu x,H4 b=none:=fun b hb=>by
    rcases own1 b hb with rfl | h
    ·exact nx
    ·exact non mk2 h
   have o2:∀b∈A2.mu y,H5 b=none:=fun b hb=>by
    rcases own2 b hb with rfl | h
    ·exact ny
    ·exact non mk3 h
   have lp4:H4 lp=none:=non s46 nlp
   have up4:Same H4 (mask H7 (lp::(A1.mu x++A2.mu y))):=fun b o e=>mask_at (s47 _ _ e) fun z=>by
    rcases List.mem_cons.mp z with z | z
    ·rw [z,lp4] at e;cases e
    ·rcases List.mem_append.mp z with z | z
     ·rw [o1 b z] at e;cases e
     ·rw [non s45 (o2 b z)] at e;cases e
   have D7:=(D1.same (s56.trans u7)).rebase' (mask_same H7 (lp::(A1.mu x++A2.mu y))) en1 er1 (net.same up4) (hR4.same up4) fun b hb=>mask_no (.tail _ (List.mem_append.mpr (.inl hb)))
   have E7:=(E2.same u7).rebase' (mask_same H7 (lp::(A1.mu x++A2.mu y))) en2 er2 (net.same up4) (hR4.same up4) fun b hb=>mask_no (.tail _ (List.mem_append.mpr (.inr hb)))
   have S0:St71 CD C CW CN (mask H7 (lp::(A1.mu x++A2.mu y))) H7 hs ds x y lp p1 A2 ⟨5,[],[],[],k2,[]⟩ A1 ⟨fv,[],[],[],k1,[]⟩ 0 []:=by
    refine ⟨D7,E7,⟨rfl,by show 0≤40;decide,by omega,(fun _ h=>nomatch h),ST1.ok hds,(fun _ h=>nomatch h),(fun _ h=>nomatch h),(fun _ h=>nomatch h),Nat.le_refl _⟩,⟨(fun _ h=>nomatch h),(fun _ h=>nomatch h),(fun _ h=>nomatch h)⟩,f0,up4 _ _ h14,l7,.nil,fun z=>?_,mask_no (.head _),fun b hb=>⟨fun z=>?_,fun z=>?_⟩⟩
    ·exact (D1.same s56).has z nlp
    ·subst z
     exact E2.has hb nlp
    ·exact D1.has z (o2 b hb)
   refine ⟨_,rfl,_,rfl,_,rfl,a,_,rfl,s47.seq hS4,fun sl nsl=>⟨sl,rfl,⟨_,SqL.of upd_same⟩,?_⟩⟩
   have u8:=upd_free (o:=.lst (cutV (ns.map V.int) (some 3) (some 43))) nsl
   have l8:upd H7 sl (.lst (cutV (ns.map V.int) (some 3) (some 43))) sl=some (.lst (cutV (ns.map V.int) (some 3) (some 43))):=upd_same
   generalize upd H7 sl (.lst (cutV (ns.map V.int) (some 3) (some 43)))=H8 at u8 l8 ⊢
   have l40:(cutV (ns.map V.int) (some 3) (some 43)).length≤40:=by
    unfold cutV
    have f1':HT.sIx (ns.map V.int).length 0 (some ((3:Nat):Int))=min 3 (ns.map V.int).length:=HT.sIx_nat _ _ 3
    have f2':HT.sIx (ns.map V.int).length (ns.map V.int).length (some ((43:Nat):Int))=min 43 (ns.map V.int).length:=HT.sIx_nat _ _ 43
    rw [show (some (3:Int))=some ((3:Nat):Int) from rfl,show (some (43:Int))=some ((43:Nat):Int) from rfl,f1',f2',List.length_take]
    omega
   obtain ⟨S1,in1⟩:=(S0.same u8).re
   have b8:St71.base H8 lp x y A1 A2 sl=_:=in1 sl _ l8 (fun z=>by rw [z,l7] at nsl;cases nsl) (fun z=>D7.has z nsl) (fun z=>E7.has z nsl)
   have sc8:SqL K (St71.base H8 lp x y A1 A2) a (ns.map V.int):=(up4.trans (fun b o e=>in1 b o (u8 _ _ (mask_same _ _ _ _ e)) (fun z=>by rw [z,mask_no (.head _)] at e;cases e) (fun z=>by rw [D7.fr b z] at e;cases e) (fun z=>by rw [E7.fr b z] at e;cases e))).seq hS4
   generalize St71.base H8 lp x y A1 A2=Hb at S1 b8 sc8
   clear S0 D7 E7 in1
   refine for_list (K:=K) (a:=sl) (xs:=cutV (ns.map V.int) (some 3) (some 43)) (fun j σ Hj=>∃A s k prs v10,σ=[some (.ref a),some (.ref p1),some (.ref Dc),some (.ref D2),some (.int fv),some (.ref n),some (.ref x),some (.ref y),some (.ref lp),some (.int s.pr),v10,none,none]∧St71 CD C CW CN Hb Hj hs ds x y lp p1 A2 ⟨5,[],[],[],k2,[]⟩ A s k prs∧k≤j)
    ⟨A1,_,0,[],none,rfl,S1,Nat.le_refl _⟩ (fun j σ Hj _ ⟨_,_,_,_,_,_,h,_⟩=>SqL.of (h.d.sb _ _ b8)) ?_ ?_
   ·rintro j z σ Hj ez ⟨A,s,k,prs,v10,rfl,S,kj⟩
    have jl:=(List.getElem?_eq_some_iff.mp ez).1
    obtain ⟨c,rfl⟩:∃c:Int,z=.int c:=by
     have hm':=List.mem_of_getElem? ez
     unfold cutV at hm'
     obtain ⟨c,_,rfl⟩:=List.mem_map.mp (List.mem_of_mem_drop (List.mem_of_mem_take hm'))
     exact ⟨c,rfl⟩
    refine to_nx ?_
    refine ends_of (t:=tIfS _ _ _) (fun D'=>∀(A:DA) (s:DayS) (k:Nat) (prs:List Addr) (Hc:Hp),St71 CD C CW CN Hb Hc hs ds x y lp p1 A2 ⟨5,[],[],[],k2,[]⟩ A s k prs→k≤j+1→D'.nx [some (.ref a),some (.ref p1),some (.ref Dc),some (.ref D2),some (.int fv),some (.ref n),some (.ref x),some (.ref y),some (.ref lp),some (.int s.pr),some (.int c),none,none] Hc) ?_ fun D' rest=>?_
    ·intro A s k prs Hc S kj
     exact ⟨_,rfl,_,rfl,_,rfl,Hb,x,A,hs,ds,s,lp,prs,rfl,S.d,G,S.ok.lets,S.ok.l40,S.li,S.tp,fun H' s'=>⟨_,rfl,iteF ⟨A,s,k,prs,_,rfl,S.same s',kj⟩⟩⟩
    ·refine ⟨_,rfl,_,_,rfl,rfl,.inr ⟨by decide,by decide⟩,_,_,rfl,rfl,(by show (0:Int) < 10000000000037;decide),_,_,rfl,rfl,(by show (0:Int) < 8;decide),rfl,_,rfl,?_⟩
     by_cases h8:c * 1099087573 % 10000000000037 % 8=0
     ·refine iteB (decide_eq_true (by show V.int (c * 1099087573 % 10000000000037 % 8)=V.int 0;rw [h8])) ?_
      refine ⟨_,rfl,x,_,_,rfl,S.d.ins,rfl,Hb,x,A,hs,ds,s,k,rfl,S.d,G,S.ok,(by omega),fun H' A' bl bas mv D'' _ _ _ _=>?_⟩
      refine ⟨_,rfl,_,_,rfl,rfl,?_⟩
      exact rest A' (passS hs ds s) (k+1) prs H' (S.pass hds mv D'') (by omega)
     ·refine iteN (decide_eq_false (by show ¬V.int (c * 1099087573 % 10000000000037 % 8)=V.int 0;exact fun z=>h8 (V.int.inj z))) ?_
      refine ⟨_,rfl,_,rfl,_,rfl,_,rfl,_,rfl,Hb,x,A,hs,ds,s,k,lp,p1,prs,c,rfl,S.d,G,by omega,S.ok,S.po,S.pr,S.nm,S.li,S.tp,S.nl,S.bl,OK,fun H' A' s' prs' mv D'' O' P' epr li' tp' nl'=>⟨_,rfl,iteF ?_⟩⟩
      have:=rest A' s' k prs' H' (S.go mv D'' O' P' (by rw [epr];exact S.pr) li' tp' nl') (by omega)
      rw [epr] at this
      exact this
   ·rintro σ Hj ⟨A,s,k,prs,v10,rfl,S,kj⟩
    have k40:k≤40:=by omega
    refine ⟨(by show 1≤sizeLine;decide),fun l1 n1=>?_⟩
    have w1:=upd_free (o:=.lst [V.int 2]) n1
    have g1:upd Hj l1 (.lst [V.int 2]) l1=some (.lst [V.int 2]):=upd_same
    generalize upd Hj l1 (.lst [V.int 2])=Hk1 at w1 g1 ⊢
    refine ⟨l1,41,_,rfl,rfl,g1,by decide,by decide,(by decide),fun l2 n2=>?_⟩
    have w2:=upd_free (o:=.lst (List.replicate (Int.toNat 41) [V.int 2]).flatten) n2
    have g2:upd Hk1 l2 (.lst (List.replicate (Int.toNat 41) [V.int 2]).flatten) l2=some (.lst ((List.replicate 41 (2:Int)).map V.int)):=by
     rw [upd_same]
     rfl
    generalize upd Hk1 l2 (.lst (List.replicate (Int.toNat 41) [V.int 2]).flatten)=Hk2 at w2 g2 ⊢
    have s12k:=w1.trans w2
    refine to_nx ?_
    dsimp only
    refine ends_of (t:=tIfS _ _ _) (fun D'=>∀(el:Addr) (es:List Int) (Hc:Hp),Same Hj Hc→Hj el=none→Hc el=some (.lst (es.map V.int))→es.length≤41→D'.nx [some (.ref a),some (.ref p1),some (.ref Dc),some (.ref D2),some (.int fv),some (.ref n),some (.ref x),some (.ref y),some (.ref lp),some (.int s.pr),v10,some (.ref el),none] Hc) ?_ fun D' rest=>?_
    ·intro el es Hc scj nel hel les
     obtain ⟨S2,in2⟩:=(S.same scj).re
     have bel:St71.base Hc lp x y A A2 el=_:=in2 el _ hel (fun z=>by rw [z,S.li] at nel;cases nel) (fun z=>S.d.has z nel) (fun z=>S.e.has z nel)
     generalize St71.base Hc lp x y A A2=Hb2 at S2 bel
     refine ⟨_,rfl,el,rfl,⟨_,SqL.of hel⟩,?_⟩
     refine for_list (K:=K) (a:=el) (xs:=es.map V.int) (fun j σ Hj=>∃A s k prs v12,σ=[some (.ref a),some (.ref p1),some (.ref Dc),some (.ref D2),some (.int fv),some (.ref n),some (.ref x),some (.ref y),some (.ref lp),some (.int s.pr),v10,some (.ref el),v12]∧St71 CD C CW CN Hb2 Hj hs ds x y lp p1 A2 ⟨5,[],[],[],k2,[]⟩ A s k prs∧k≤40+j)
      ⟨A,s,k,prs,none,rfl,S2,by omega⟩ (fun j σ Hj _ ⟨_,_,_,_,_,_,h,_⟩=>SqL.of (h.d.sb _ _ bel)) ?_ ?_
     ·rintro j z σ Hj ez ⟨A,s,k,prs,v12,rfl,S,kj⟩
      have jl:=(List.getElem?_eq_some_iff.mp ez).1
      rw [List.length_map] at jl
      rw [List.getElem?_map] at ez
      obtain ⟨c,_,rfl⟩:=Option.map_eq_some_iff.mp ez
      refine to_nx ?_
      refine ⟨_,rfl,rfl,_,rfl,?_⟩
      by_cases h0:c=0
      ·refine iteB (decide_eq_true (by rw [h0])) ?_
       refine ⟨_,rfl,x,_,_,rfl,S.d.ins,rfl,Hb2,x,A,hs,ds,s,k,rfl,S.d,G,S.ok,(by omega),fun H' A' bl bas mv D'' _ _ _ _=>?_⟩
       refine ⟨_,rfl,_,_,rfl,rfl,?_⟩
       exact ⟨A',passS hs ds s,k+1,prs,_,rfl,S.pass hds mv D'',by omega⟩
      ·refine iteN (decide_eq_false (fun z=>h0 (V.int.inj z))) ?_
       refine ⟨_,rfl,_,rfl,_,rfl,_,rfl,_,rfl,Hb2,x,A,hs,ds,s,k,lp,p1,prs,c,rfl,S.d,G,by omega,S.ok,S.po,S.pr,S.nm,S.li,S.tp,S.nl,S.bl,OK,fun H' A' s' prs' mv D'' O' P' epr li' tp' nl'=>⟨_,rfl,iteF ?_⟩⟩
       exact ⟨A',s',k,prs',_,by rw [epr];rfl,S.go mv D'' O' P' (by rw [epr];exact S.pr) li' tp' nl',by omega⟩
     ·rintro σ Hj ⟨A,s,k,prs,v12,rfl,S,kj⟩
      refine ⟨_,rfl,_,rfl,_,rfl,Hb2,x,A,hs,ds,s,lp,prs,rfl,S.d,G,S.ok.lets,S.ok.l40,S.li,S.tp,fun Hm sm=>⟨_,rfl,iteF ?_⟩⟩
      have Sm:=S.same sm
      refine ⟨_,rfl,(by show 0≤sizeLine;decide),fun e1 ne1=>?_⟩
      have w1':=upd_free (o:=.lst []) ne1
      have Sn:=Sm.same w1'
      refine ⟨Hb2,y,A2,hs,ds,_,e1,[],rfl,Sn.e,G,(fun _ h=>nomatch h),(by show 0≤40;decide),upd_same,.nil,fun Ho so=>⟨_,rfl,iteF ?_⟩⟩
      have So:=Sn.same so
      have hn1:=So.d.sb _ _ So.nm
      have i1:1 < hs.length:=by omega
      have m1:K1.S (hs.getD 1 [])∈hs.map K1.S:=List.mem_map.mpr ⟨_,by rw [List.getD,List.getElem?_eq_getElem i1];exact List.getElem_mem i1,rfl⟩
      have m0:K1.S (hs.getD 0 [])∈hs.map K1.S:=List.mem_map.mpr ⟨_,by rw [List.getD,List.getElem?_eq_getElem (by omega:0 < hs.length)];exact List.getElem_mem _,rfl⟩
      have t1:L2.atI (txs hs) 1=some (.str (K1.S (hs.getD 1 []))):=txs_at (k:=1) (by decide) (by omega)
      have t0:L2.atI (txs hs) 0=some (.str (K1.S (hs.getD 0 []))):=txs_at (k:=0) (by decide) (by omega)
      have ne10:K1.S (hs.getD 1 [])≠K1.S (hs.getD 0 []):=ne_at G.nd i1 (by omega) (by decide)
      have Pe:Posted hs ⟨5,[],[],[],k2,[]⟩:=⟨(fun _ h=>nomatch h),(fun _ h=>nomatch h),(fun _ h=>nomatch h)⟩
      have il:=isL_iff.mpr ⟨m1,m0,ne10,(by decide:(0:Int)≤5),(by decide:(5:Int)≤1000000000)⟩
      have fb:=bad_none Pe il
      have ap:=apart_post Pe (K1.S (hs.getD 1 [])) (K1.S (hs.getD 0 []))
      refine ⟨_,rfl,y,_,_,rfl,So.e.ins,rfl,_,rfl,p1,_,_,_,rfl,rfl,SqL.of hn1,t1,_,rfl,p1,_,_,_,rfl,rfl,SqL.of hn1,t0,Hb2,y,A2,hs,ds,_,K1.S (hs.getD 1 []),K1.S (hs.getD 0 []),rfl,So.e,G,(fun _ h=>nomatch h),(by show 0≤40;decide),rfl,(fun H=>th_nmS G m1),(fun H=>th_nmS G m0),fun _ Hp' A2' mv D2'=>?_,fun na=>absurd ⟨fb,(by show 1≤40;decide),by rw [ap];show (5:Int) - 5≤30;decide⟩ na⟩
      refine ⟨rfl,_,rfl,iteB (decide_eq_true rfl) ?_⟩
      have Dp:=So.d.frame D2'.sb mv.keep (fun b hb z=>(So.dj b z).2 hb) (fun b hb v e=>So.e.notup hb e)
      exact ⟨_,rfl,_,rfl,_,rfl,Hb2,x,A,hs,ds,s,lp,prs,rfl,Dp,G,So.ok.lets,So.ok.l40,mv.keep _ _ (fun z=>(So.dj lp z).1 rfl) So.li,Paired.mapP So.tp fun _ _ e=>mv.keep _ _ (fun z=>So.e.notup z e) e,fun Hq sq=>q _⟩
    ·refine ⟨_,rfl,a,ns,1,rfl,(S.d.sb.trans s12k).seq sc8,by decide,_,_,rfl,rfl,⟨by decide,by decide⟩,_,_,rfl,rfl,(by show (0:Int) < 2;decide),rfl,_,rfl,?_⟩
     by_cases h2':ns.getD (1:Int).toNat 0 / 40 % 2=1
     ·refine iteB (decide_eq_true (by show V.int (ns.getD (1:Int).toNat 0 / 40 % 2)=V.int 1;rw [h2'])) ?_
      refine ⟨(by show 1≤sizeLine;decide),fun m1 r1=>?_⟩
      have w3:=upd_free (o:=.lst [V.int 2]) r1
      have g3:upd Hk2 m1 (.lst [V.int 2]) m1=some (.lst [V.int 2]):=upd_same
      generalize upd Hk2 m1 (.lst [V.int 2])=Hk3 at w3 g3 ⊢
      refine ⟨(by show 1≤sizeLine;decide),fun m2 r2=>?_⟩
      have w4:=upd_free (o:=.lst [V.int 0]) r2
      have g4:upd Hk3 m2 (.lst [V.int 0]) m2=some (.lst [V.int 0]):=upd_same
      generalize upd Hk3 m2 (.lst [V.int 0])=Hk4 at w4 g4 ⊢
      refine ⟨m2,31,_,rfl,rfl,g4,by decide,by decide,(by decide),fun m3 r3=>?_⟩
      have w5:=upd_free (o:=.lst (List.replicate (Int.toNat 31) [V.int 0]).flatten) r3
      have g5:upd Hk4 m3 (.lst (List.replicate (Int.toNat 31) [V.int 0]).flatten) m3=some (.lst ((List.replicate 31 (0:Int)).map V.int)):=by
       rw [upd_same]
       rfl
      generalize upd Hk4 m3 (.lst (List.replicate (Int.toNat 31) [V.int 0]).flatten)=Hk5 at w5 g5 ⊢
      refine ⟨m1,m3,_,_,rfl,rfl,w5 _ _ (w4 _ _ g3),g5,(by decide),fun m4 r4=>?_⟩
      have w6:=upd_free (o:=.lst ([V.int 2]++(List.replicate 31 (0:Int)).map V.int)) r4
      have g6:upd Hk5 m4 (.lst ([V.int 2]++(List.replicate 31 (0:Int)).map V.int)) m4=some (.lst ([V.int 2]++(List.replicate 31 (0:Int)).map V.int)):=upd_same
      generalize upd Hk5 m4 (.lst ([V.int 2]++(List.replicate 31 (0:Int)).map V.int))=Hk6 at w6 g6 ⊢
      refine ⟨(by show 1≤sizeLine;decide),fun m5 r5=>?_⟩
      have w7:=upd_free (o:=.lst [V.int 2]) r5
      have g7:upd Hk6 m5 (.lst [V.int 2]) m5=some (.lst [V.int 2]):=upd_same
      generalize upd Hk6 m5 (.lst [V.int 2])=Hk7 at w7 g7 ⊢
      refine ⟨m4,m5,_,_,rfl,rfl,w7 _ _ g6,g7,(by decide),fun m6 r6=>?_⟩
      have w8:=upd_free (o:=.lst ([V.int 2]++(List.replicate 31 (0:Int)).map V.int++[V.int 2])) r6
      have sj7:=s12k.trans (w3.trans (w4.trans (w5.trans (w6.trans w7))))
      refine rest m6 ([2]++List.replicate 31 0++[2]) _ (sj7.trans w8) (non sj7 r6) ?_ (by decide)
      rw [upd_same]
      rfl
     ·refine iteN (decide_eq_false (by show ¬V.int (ns.getD (1:Int).toNat 0 / 40 % 2)=V.int 1;exact fun z=>h2' (V.int.inj z))) ?_
      exact rest l2 (List.replicate 41 2) _ s12k (non w1 n2) g2 (by decide)
  ·refine ⟨_,rfl,a,ns,1,rfl,hS3,by decide,_,_,rfl,rfl,⟨by decide,by decide⟩,_,_,rfl,rfl,(by show (0:Int) < 3;decide),rfl,_,rfl,?_⟩
   by_cases h3:ns.getD (1:Int).toNat 0 / 80 % 3=1
   ·refine iteB (decide_eq_true (by show V.int (ns.getD (1:Int).toNat 0 / 80 % 3)=V.int 1;rw [h3])) ?_
    refine ⟨_,_,rfl,rfl,⟨by decide,by decide,by decide⟩,_,rfl,a,ns,2,rfl,hS3,by decide,_,_,rfl,rfl,(by show (0:Int) < 30;decide),_,_,rfl,rfl,?_⟩
    refine rest _ ?_ ?_
    ·show (0:Int)≤10 ^ (9:Int).toNat - ns.getD (2:Int).toNat 0 % 30
     have:ns.getD (2:Int).toNat 0 % 30 < 30:=Int.emod_lt_of_pos _ (by decide)
     have e:(10:Int) ^ (9:Int).toNat=1000000000:=by decide
     omega
    ·show (10:Int) ^ (9:Int).toNat - ns.getD (2:Int).toNat 0 % 30≤1000000000
     have:0≤ns.getD (2:Int).toNat 0 % 30:=Int.emod_nonneg _ (by decide)
     have e:(10:Int) ^ (9:Int).toNat=1000000000:=by decide
     omega
   ·refine iteN (decide_eq_false (by show ¬V.int (ns.getD (1:Int).toNat 0 / 80 % 3)=V.int 1;exact fun z=>h3 (V.int.inj z))) ?_
    refine rest _ ?_ ?_
    ·exact Int.emod_nonneg _ (by decide)
    ·show ns.getD (2:Int).toNat 0 % (10 ^ (9:Int).toNat+1)≤1000000000
     have:ns.getD (2:Int).toNat 0 % (10 ^ (9:Int).toNat+1) < 10 ^ (9:Int).toNat+1:=Int.emod_lt_of_pos _ (by decide)
     have e:(10:Int) ^ (9:Int).toNat=1000000000:=by decide
     rw [e] at this ⊢
     omega
end
open PySem L2 L3 M1
theorem kit_ty {K:PySem.W.Frag} {C:Addr} {T:String} {b:Bool} (hm:PySem.W.kitMeta T=true) (hs:PySem.W.subIn K (.ref C) (.type T)=some b):PySem.W.kitOne K (.ref C) (.type T)=some b:=by
 unfold PySem.W.kitOne
 rw [if_neg (by intro z;cases z)]
 unfold PySem.W.kitCls
 show (if PySem.W.kitMeta T=true then _ else _)=_
 rw [if_pos hm,hs]
theorem len_1 {us:List Value} (h:us.length=1):∃a0,us=[a0]:=by
 rcases us with _ | ⟨a0,_ | ⟨b,r⟩⟩
 ·simp at h
 ·exact ⟨a0,rfl⟩
 ·simp at h
theorem len_2 {us:List Value} (h:us.length=2):∃a0 a1,us=[a0,a1]:=by
 rcases us with _ | ⟨a0,_ | ⟨a1,_ | ⟨b,r⟩⟩⟩
 ·simp at h
 ·simp at h
 ·exact ⟨a0,a1,rfl⟩
 ·simp at h
theorem len_3 {us:List Value} (h:us.length=3):∃a0 a1 a2,us=[a0,a1,a2]:=by
 rcases us with _ | ⟨a0,_ | ⟨a1,_ | ⟨a2,_ | ⟨b,r⟩⟩⟩⟩
 ·simp at h
 ·simp at h
 ·simp at h
 ·exact ⟨a0,a1,a2,rfl⟩
 ·simp at h
theorem len_4 {us:List Value} (h:us.length=4):∃a0 a1 a2 a3,us=[a0,a1,a2,a3]:=by
 rcases us with _ | ⟨a0,_ | ⟨a1,_ | ⟨a2,_ | ⟨a3,_ | ⟨b,r⟩⟩⟩⟩⟩
 ·simp at h
 ·simp at h
 ·simp at h
 ·simp at h
 ·exact ⟨a0,a1,a2,a3,rfl⟩
 ·simp at h
theorem len_5 {us:List Value} (h:us.length=5):∃a0 a1 a2 a3 a4,us=[a0,a1,a2,a3,a4]:=by
 rcases us with _ | ⟨a0,_ | ⟨a1,_ | ⟨a2,_ | ⟨a3,_ | ⟨a4,_ | ⟨b,r⟩⟩⟩⟩⟩⟩
 ·simp at h
 ·simp at h
 ·simp at h
 ·simp at h
 ·simp at h
 ·exact ⟨a0,a1,a2,a3,a4,rfl⟩
 ·simp at h
theorem all_mk {l:PySem.W.OpenLaw} {w:World} {K:PySem.W.Frag} {h:Heap} {mg:Str→Option Value} {fa CNet fNet_init fNet_houses fNet_roads fNet_road fNet_out_of fNet_need_house CWays fWays_init fWays_set_way fWays_way fWays_need_pair CWalk fWalk_init fWalk_take_in fWalk_send fWalk_goal fWalk_last_house fWalk_last_turn fWalk_home_turn CDay fDay_init fDay_now fDay_post fDay_pass_turn fDay_letters fis_whole fis_whole_within fis_tuple_of fare_unlike_houses fis_name fare_houses fis_road fare_roads fis_letter fturns_apart fletters_of fis_shorter_by fleast_turns_from fbegins_shortest fshortest fqueues_at fbags_at f_law_cell_at f_law_houses f_law_road f_law_post f_law_step f_law_right flaw CRoadError CNoLetter CNoHouse CNoRoad fNoLetter_init:Addr} {dNet_init dNet_houses dNet_roads dNet_road dNet_out_of dNet_need_house dWays_init dWays_set_way dWays_way dWays_need_pair dWalk_init dWalk_take_in dWalk_send dWalk_goal dWalk_last_house dWalk_last_turn dWalk_home_turn dDay_init dDay_now dDay_post dDay_pass_turn dDay_letters dis_whole dis_whole_within dis_tuple_of dare_unlike_houses dis_name dare_houses dis_road dare_roads dis_letter dturns_apart dletters_of dis_shorter_by dleast_turns_from dbegins_shortest dshortest dqueues_at dbags_at d_law_cell_at d_law_houses d_law_road d_law_post d_law_step d_law_right dlaw dNoLetter_init:FuncData} (X:K.In h) (G:h.Ns mainGlobals mg) (hfa:mg "law"=some (.ref fa))
  (aCNet:PySem.W.nsIn K mainGlobals "Net"=some (some (.ref CNet)))
  (pgNet:PySem.W.plainGet K CNet Str.empty=true) (hdNet:PySem.W.hasDictIn K CNet=true) (poNet:PySem.W.plainOver K CNet=true) (saNet:PySem.W.findIn K (.ref CNet) "__setattr__"=some (some (.builtin "object.__setattr__"))) (mkNet:PySem.W.makesIn K CNet=true) (kcNet:PySem.W.keepIn K (.ref CNet)=true)
  (nNet_kept_houses:PySem.W.findIn K (.ref CNet) "kept_houses"=some none)
  (nNet_kept_roads:PySem.W.findIn K (.ref CNet) "kept_roads"=some none)
  (aNet_init:PySem.W.findIn K (.ref CNet) "__init__"=some (some (.ref fNet_init))) (iNet_init:PySem.W.isFn K (.ref fNet_init)=true)
  (FNet_init:Fun K "__init__" "Net.__init__" sInit fNet_init dNet_init)
  (aNet_houses:PySem.W.findIn K (.ref CNet) "houses"=some (some (.ref fNet_houses))) (iNet_houses:PySem.W.isFn K (.ref fNet_houses)=true)
  (FNet_houses:Fun K "houses" "Net.houses" sHousesM fNet_houses dNet_houses)
  (aNet_roads:PySem.W.findIn K (.ref CNet) "roads"=some (some (.ref fNet_roads))) (iNet_roads:PySem.W.isFn K (.ref fNet_roads)=true)
  (FNet_roads:Fun K "roads" "Net.roads" sRoadsM fNet_roads dNet_roads)
  (aNet_road:PySem.W.findIn K (.ref CNet) "road"=some (some (.ref fNet_road))) (iNet_road:PySem.W.isFn K (.ref fNet_road)=true)
  (FNet_road:Fun K "road" "Net.road" sRoadM fNet_road dNet_road)
  (aNet_out_of:PySem.W.findIn K (.ref CNet) "out_of"=some (some (.ref fNet_out_of))) (iNet_out_of:PySem.W.isFn K (.ref fNet_out_of)=true)
  (FNet_out_of:Fun K "out_of" "Net.out_of" sOut fNet_out_of dNet_out_of)
  (aNet_need_house:PySem.W.findIn K (.ref CNet) "need_house"=some (some (.ref fNet_need_house))) (iNet_need_house:PySem.W.isFn K (.ref fNet_need_house)=true)
  (FNet_need_house:Fun K "need_house" "Net.need_house" sNeed fNet_need_house dNet_need_house)
  (aCWays:PySem.W.nsIn K mainGlobals "Ways"=some (some (.ref CWays)))
  (pgWays:PySem.W.plainGet K CWays Str.empty=true) (hdWays:PySem.W.hasDictIn K CWays=true) (poWays:PySem.W.plainOver K CWays=true) (saWays:PySem.W.findIn K (.ref CWays) "__setattr__"=some (some (.builtin "object.__setattr__"))) (mkWays:PySem.W.makesIn K CWays=true) (kcWays:PySem.W.keepIn K (.ref CWays)=true)
  (nWays_net:PySem.W.findIn K (.ref CWays) "net"=some none)
  (nWays_told:PySem.W.findIn K (.ref CWays) "told"=some none)
  (aWays_init:PySem.W.findIn K (.ref CWays) "__init__"=some (some (.ref fWays_init))) (iWays_init:PySem.W.isFn K (.ref fWays_init)=true)
  (FWays_init:Fun K "__init__" "Ways.__init__" sWI fWays_init dWays_init)
  (aWays_set_way:PySem.W.findIn K (.ref CWays) "set_way"=some (some (.ref fWays_set_way))) (iWays_set_way:PySem.W.isFn K (.ref fWays_set_way)=true)
  (FWays_set_way:Fun K "set_way" "Ways.set_way" sSW fWays_set_way dWays_set_way)
  (aWays_way:PySem.W.findIn K (.ref CWays) "way"=some (some (.ref fWays_way))) (iWays_way:PySem.W.isFn K (.ref fWays_way)=true)
  (FWays_way:Fun K "way" "Ways.way" sWy fWays_way dWays_way)
  (aWays_need_pair:PySem.W.findIn K (.ref CWays) "need_pair"=some (some (.ref fWays_need_pair))) (iWays_need_pair:PySem.W.isFn K (.ref fWays_need_pair)=true)
  (FWays_need_pair:Fun K "need_pair" "Ways.need_pair" sNP fWays_need_pair dWays_need_pair)
  (aCWalk:PySem.W.nsIn K mainGlobals "Walk"=some (some (.ref CWalk)))
  (pgWalk:PySem.W.plainGet K CWalk Str.empty=true) (hdWalk:PySem.W.hasDictIn K CWalk=true) (poWalk:PySem.W.plainOver K CWalk=true) (saWalk:PySem.W.findIn K (.ref CWalk) "__setattr__"=some (some (.builtin "object.__setattr__"))) (mkWalk:PySem.W.makesIn K CWalk=true) (kcWalk:PySem.W.keepIn K (.ref CWalk)=true)
  (nWalk_net:PySem.W.findIn K (.ref CWalk) "net"=some none)
  (nWalk_goals:PySem.W.findIn K (.ref CWalk) "goals"=some none)
  (nWalk_steps:PySem.W.findIn K (.ref CWalk) "steps"=some none)
  (aWalk_init:PySem.W.findIn K (.ref CWalk) "__init__"=some (some (.ref fWalk_init))) (iWalk_init:PySem.W.isFn K (.ref fWalk_init)=true)
  (FWalk_init:Fun K "__init__" "Walk.__init__" sWkI fWalk_init dWalk_init)
  (aWalk_take_in:PySem.W.findIn K (.ref CWalk) "take_in"=some (some (.ref fWalk_take_in))) (iWalk_take_in:PySem.W.isFn K (.ref fWalk_take_in)=true)
  (FWalk_take_in:Fun K "take_in" "Walk.take_in" sTake fWalk_take_in dWalk_take_in)
  (aWalk_send:PySem.W.findIn K (.ref CWalk) "send"=some (some (.ref fWalk_send))) (iWalk_send:PySem.W.isFn K (.ref fWalk_send)=true)
  (FWalk_send:Fun K "send" "Walk.send" sSend fWalk_send dWalk_send)
  (aWalk_goal:PySem.W.findIn K (.ref CWalk) "goal"=some (some (.ref fWalk_goal))) (iWalk_goal:PySem.W.isFn K (.ref fWalk_goal)=true)
  (FWalk_goal:Fun K "goal" "Walk.goal" sGoal fWalk_goal dWalk_goal)
  (aWalk_last_house:PySem.W.findIn K (.ref CWalk) "last_house"=some (some (.ref fWalk_last_house))) (iWalk_last_house:PySem.W.isFn K (.ref fWalk_last_house)=true)
  (FWalk_last_house:Fun K "last_house" "Walk.last_house" sLastH fWalk_last_house dWalk_last_house)
  (aWalk_last_turn:PySem.W.findIn K (.ref CWalk) "last_turn"=some (some (.ref fWalk_last_turn))) (iWalk_last_turn:PySem.W.isFn K (.ref fWalk_last_turn)=true)
  (FWalk_last_turn:Fun K "last_turn" "Walk.last_turn" sLastT fWalk_last_turn dWalk_last_turn)
  (aWalk_home_turn:PySem.W.findIn K (.ref CWalk) "home_turn"=some (some (.ref fWalk_home_turn))) (iWalk_home_turn:PySem.W.isFn K (.ref fWalk_home_turn)=true)
  (FWalk_home_turn:Fun K "home_turn" "Walk.home_turn" sHomeT fWalk_home_turn dWalk_home_turn)
  (aCDay:PySem.W.nsIn K mainGlobals "Day"=some (some (.ref CDay)))
  (pgDay:PySem.W.plainGet K CDay Str.empty=true) (hdDay:PySem.W.hasDictIn K CDay=true) (poDay:PySem.W.plainOver K CDay=true) (saDay:PySem.W.findIn K (.ref CDay) "__setattr__"=some (some (.builtin "object.__setattr__"))) (mkDay:PySem.W.makesIn K CDay=true) (kcDay:PySem.W.keepIn K (.ref CDay)=true)
  (nDay_net:PySem.W.findIn K (.ref CDay) "net"=some none)
  (nDay_present:PySem.W.findIn K (.ref CDay) "present"=some none)
  (nDay_posted:PySem.W.findIn K (.ref CDay) "posted"=some none)
  (nDay_ways:PySem.W.findIn K (.ref CDay) "ways"=some none)
  (nDay_shut_roads:PySem.W.findIn K (.ref CDay) "shut_roads"=some none)
  (nDay_walk:PySem.W.findIn K (.ref CDay) "walk"=some none)
  (nDay_sent:PySem.W.findIn K (.ref CDay) "sent"=some none)
  (aDay_init:PySem.W.findIn K (.ref CDay) "__init__"=some (some (.ref fDay_init))) (iDay_init:PySem.W.isFn K (.ref fDay_init)=true)
  (FDay_init:Fun K "__init__" "Day.__init__" sDyI fDay_init dDay_init)
  (aDay_now:PySem.W.findIn K (.ref CDay) "now"=some (some (.ref fDay_now))) (iDay_now:PySem.W.isFn K (.ref fDay_now)=true)
  (FDay_now:Fun K "now" "Day.now" sNow fDay_now dDay_now)
  (aDay_post:PySem.W.findIn K (.ref CDay) "post"=some (some (.ref fDay_post))) (iDay_post:PySem.W.isFn K (.ref fDay_post)=true)
  (FDay_post:Fun K "post" "Day.post" sPost fDay_post dDay_post)
  (aDay_pass_turn:PySem.W.findIn K (.ref CDay) "pass_turn"=some (some (.ref fDay_pass_turn))) (iDay_pass_turn:PySem.W.isFn K (.ref fDay_pass_turn)=true)
  (FDay_pass_turn:Fun K "pass_turn" "Day.pass_turn" sPass fDay_pass_turn dDay_pass_turn)
  (aDay_letters:PySem.W.findIn K (.ref CDay) "letters"=some (some (.ref fDay_letters))) (iDay_letters:PySem.W.isFn K (.ref fDay_letters)=true)
  (FDay_letters:Fun K "letters" "Day.letters" sLts fDay_letters dDay_letters)
  (ais_whole:PySem.W.nsIn K mainGlobals "is_whole"=some (some (.ref fis_whole)))
  (Fis_whole:Fun K "is_whole" "is_whole" sWhole fis_whole dis_whole)
  (ais_whole_within:PySem.W.nsIn K mainGlobals "is_whole_within"=some (some (.ref fis_whole_within)))
  (Fis_whole_within:Fun K "is_whole_within" "is_whole_within" sWithin fis_whole_within dis_whole_within)
  (ais_tuple_of:PySem.W.nsIn K mainGlobals "is_tuple_of"=some (some (.ref fis_tuple_of)))
  (Fis_tuple_of:Fun K "is_tuple_of" "is_tuple_of" sTupOf fis_tuple_of dis_tuple_of)
  (aare_unlike_houses:PySem.W.nsIn K mainGlobals "are_unlike_houses"=some (some (.ref fare_unlike_houses)))
  (Fare_unlike_houses:Fun K "are_unlike_houses" "are_unlike_houses" sUnlike fare_unlike_houses dare_unlike_houses)
  (ais_name:PySem.W.nsIn K mainGlobals "is_name"=some (some (.ref fis_name)))
  (Fis_name:Fun K "is_name" "is_name" sName fis_name dis_name)
  (aare_houses:PySem.W.nsIn K mainGlobals "are_houses"=some (some (.ref fare_houses)))
  (Fare_houses:Fun K "are_houses" "are_houses" sAreH fare_houses dare_houses)
  (ais_road:PySem.W.nsIn K mainGlobals "is_road"=some (some (.ref fis_road)))
  (Fis_road:Fun K "is_road" "is_road" sRoad fis_road dis_road)
  (aare_roads:PySem.W.nsIn K mainGlobals "are_roads"=some (some (.ref fare_roads)))
  (Fare_roads:Fun K "are_roads" "are_roads" sAreR fare_roads dare_roads)
  (ais_letter:PySem.W.nsIn K mainGlobals "is_letter"=some (some (.ref fis_letter)))
  (Fis_letter:Fun K "is_letter" "is_letter" sIsL fis_letter dis_letter)
  (aturns_apart:PySem.W.nsIn K mainGlobals "turns_apart"=some (some (.ref fturns_apart)))
  (Fturns_apart:Fun K "turns_apart" "turns_apart" sApart fturns_apart dturns_apart)
  (aletters_of:PySem.W.nsIn K mainGlobals "letters_of"=some (some (.ref fletters_of)))
  (Fletters_of:Fun K "letters_of" "letters_of" sLof fletters_of dletters_of)
  (ais_shorter_by:PySem.W.nsIn K mainGlobals "is_shorter_by"=some (some (.ref fis_shorter_by)))
  (Fis_shorter_by:Fun K "is_shorter_by" "is_shorter_by" sShort fis_shorter_by dis_shorter_by)
  (aleast_turns_from:PySem.W.nsIn K mainGlobals "least_turns_from"=some (some (.ref fleast_turns_from)))
  (Fleast_turns_from:Fun K "least_turns_from" "least_turns_from" sLeast fleast_turns_from dleast_turns_from)
  (abegins_shortest:PySem.W.nsIn K mainGlobals "begins_shortest"=some (some (.ref fbegins_shortest)))
  (Fbegins_shortest:Fun K "begins_shortest" "begins_shortest" sBeg fbegins_shortest dbegins_shortest)
  (ashortest:PySem.W.nsIn K mainGlobals "shortest"=some (some (.ref fshortest)))
  (Fshortest:Fun K "shortest" "shortest" sSh fshortest dshortest)
  (aqueues_at:PySem.W.nsIn K mainGlobals "queues_at"=some (some (.ref fqueues_at)))
  (Fqueues_at:Fun K "queues_at" "queues_at" sQs fqueues_at dqueues_at)
  (abags_at:PySem.W.nsIn K mainGlobals "bags_at"=some (some (.ref fbags_at)))
  (Fbags_at:Fun K "bags_at" "bags_at" sBa fbags_at dbags_at)
  (a_law_cell_at:PySem.W.nsIn K mainGlobals "_law_cell_at"=some (some (.ref f_law_cell_at)))
  (F_law_cell_at:Fun K "_law_cell_at" "_law_cell_at" sAt f_law_cell_at d_law_cell_at)
  (a_law_houses:PySem.W.nsIn K mainGlobals "_law_houses"=some (some (.ref f_law_houses)))
  (F_law_houses:Fun K "_law_houses" "_law_houses" sHousesN f_law_houses d_law_houses)
  (a_law_road:PySem.W.nsIn K mainGlobals "_law_road"=some (some (.ref f_law_road)))
  (F_law_road:Fun K "_law_road" "_law_road" sRd1 f_law_road d_law_road)
  (a_law_post:PySem.W.nsIn K mainGlobals "_law_post"=some (some (.ref f_law_post)))
  (F_law_post:Fun K "_law_post" "_law_post" sLp f_law_post d_law_post)
  (a_law_step:PySem.W.nsIn K mainGlobals "_law_step"=some (some (.ref f_law_step)))
  (F_law_step:Fun K "_law_step" "_law_step" sSt f_law_step d_law_step)
  (a_law_right:PySem.W.nsIn K mainGlobals "_law_right"=some (some (.ref f_law_right)))
  (F_law_right:Fun K "_law_right" "_law_right" sRi f_law_right d_law_right)
  (alaw:PySem.W.nsIn K mainGlobals "law"=some (some (.ref flaw)))
  (Flaw:Fun K "law" "law" sLaw flaw dlaw)
  {ddRoadError:Option Addr} {cdRoadError:ClassData} {slRoadError:Array (Option Value)} (aCRoadError:PySem.W.nsIn K mainGlobals "RoadError"=some (some (.ref CRoadError))) (lCRoadError:K.lookup CRoadError=some ⟨.type "type",ddRoadError,.cls cdRoadError,slRoadError⟩)
  {ddNoLetter:Option Addr} {cdNoLetter:ClassData} {slNoLetter:Array (Option Value)} (aCNoLetter:PySem.W.nsIn K mainGlobals "NoLetter"=some (some (.ref CNoLetter))) (lCNoLetter:K.lookup CNoLetter=some ⟨.type "type",ddNoLetter,.cls cdNoLetter,slNoLetter⟩)
  {ddNoHouse:Option Addr} {cdNoHouse:ClassData} {slNoHouse:Array (Option Value)} (aCNoHouse:PySem.W.nsIn K mainGlobals "NoHouse"=some (some (.ref CNoHouse))) (lCNoHouse:K.lookup CNoHouse=some ⟨.type "type",ddNoHouse,.cls cdNoHouse,slNoHouse⟩)
  {ddNoRoad:Option Addr} {cdNoRoad:ClassData} {slNoRoad:Array (Option Value)} (aCNoRoad:PySem.W.nsIn K mainGlobals "NoRoad"=some (some (.ref CNoRoad))) (lCNoRoad:K.lookup CNoRoad=some ⟨.type "type",ddNoRoad,.cls cdNoRoad,slNoRoad⟩)
  (aNoLetter_init:PySem.W.findIn K (.ref CNoLetter) "__init__"=some (some (.ref fNoLetter_init))) (iNoLetter_init:PySem.W.isFn K (.ref fNoLetter_init)=true)
  (FNoLetter_init:Fun K "__init__" "NoLetter.__init__" sIL fNoLetter_init dNoLetter_init)
  (xiRoadError:PySem.W.excIn K CRoadError [.type "ValueError",.type "Exception",.type "BaseException",.type "object"] "ValueError.__new__"=true)
  (xiNoHouse:PySem.W.excIn K CNoHouse [.type "ValueError",.type "Exception",.type "BaseException",.type "object"] "ValueError.__new__"=true)
  (xiNoRoad:PySem.W.excIn K CNoRoad [.type "ValueError",.type "Exception",.type "BaseException",.type "object"] "ValueError.__new__"=true)
  (xsNoLetter_NoLetter:excChk cdNoLetter slNoLetter CNoLetter CNoLetter=true)
  {tMOST_HOUSES:Tok} (vMOST_HOUSES:PySem.W.nsIn K mainGlobals "MOST_HOUSES"=some (some (.int 12 tMOST_HOUSES)))
  {tMOST_ROADS:Tok} (vMOST_ROADS:PySem.W.nsIn K mainGlobals "MOST_ROADS"=some (some (.int 40 tMOST_ROADS)))
  {tMOST_SIGNS:Tok} (vMOST_SIGNS:PySem.W.nsIn K mainGlobals "MOST_SIGNS"=some (some (.int 8 tMOST_SIGNS)))
  {tMOST_TURNS:Tok} (vMOST_TURNS:PySem.W.nsIn K mainGlobals "MOST_TURNS"=some (some (.int 9 tMOST_TURNS)))
  {tMOST_ROOM:Tok} (vMOST_ROOM:PySem.W.nsIn K mainGlobals "MOST_ROOM"=some (some (.int 1000000000 tMOST_ROOM)))
  {tMOST_LETTERS:Tok} (vMOST_LETTERS:PySem.W.nsIn K mainGlobals "MOST_LETTERS"=some (some (.int 40 tMOST_LETTERS)))
  {tMOST_TURN:Tok} (vMOST_TURN:PySem.W.nsIn K mainGlobals "MOST_TURN"=some (some (.int 1000000000 tMOST_TURN)))
  {tMOST_APART:Tok} (vMOST_APART:PySem.W.nsIn K mainGlobals "MOST_APART"=some (some (.int 30 tMOST_APART)))
  (zlen:PySem.W.nsIn K mainGlobals "len"=some none)
  (zrange:PySem.W.nsIn K mainGlobals "range"=some none)
  (zisinstance:PySem.W.nsIn K mainGlobals "isinstance"=some none)
  (zall:PySem.W.nsIn K mainGlobals "all"=some none)
  (zint:PySem.W.nsIn K mainGlobals "int"=some none)
  (zbool:PySem.W.nsIn K mainGlobals "bool"=some none)
  (zstr:PySem.W.nsIn K mainGlobals "str"=some none)
  (zlist:PySem.W.nsIn K mainGlobals "list"=some none)
  (ztuple:PySem.W.nsIn K mainGlobals "tuple"=some none)
  (zset:PySem.W.nsIn K mainGlobals "set"=some none)
  (zValueError:PySem.W.nsIn K mainGlobals "ValueError"=some none)
  (zenumerate:PySem.W.nsIn K mainGlobals "enumerate"=some none)
  (zmax:PySem.W.nsIn K mainGlobals "max"=some none)
  (zmin:PySem.W.nsIn K mainGlobals "min"=some none)
  (zsum:PySem.W.nsIn K mainGlobals "sum"=some none)
  (zany:PySem.W.nsIn K mainGlobals "any"=some none)
  (zdict:PySem.W.nsIn K mainGlobals "dict"=some none)
  (zsorted:PySem.W.nsIn K mainGlobals "sorted"=some none)
  (zzip:PySem.W.nsIn K mainGlobals "zip"=some none)
  (xkNoLetter:excICk cdNoLetter cdRoadError slNoLetter CNoLetter "ValueError.__new__"=true)
  (xdNoLetter:cdNoLetter.hasDict=true)
  (sxNoLetter:PySem.W.findIn K (.ref CNoLetter) "__setattr__"=some (some (.builtin "object.__setattr__")))
  (obNoLetter:PySem.W.subIn K (.ref CNoLetter) (.type "object")=some true)
  (hyNoLetter:PySem.W.hasDictIn K CNoLetter=true)
  (kpNoLetter:PySem.W.keepIn K (.ref CNoLetter)=true)
  (gaNoLetter:PySem.W.findIn K (.ref CNoLetter) "__getattribute__"=some (some (.builtin "BaseException.__getattribute__")))
  (noNoLetter:PySem.W.findIn K (.ref CNoLetter) "__getattr__"=some none)
  (haNoLetter:PySem.W.findIn K (.ref CNoLetter) "__class__"=some (some (.builtin "object.__class__")))
  (hnNoLetter:PySem.W.specialIn K (.builtin "object.__class__") "__get__"=some (some (.builtin "getset_descriptor.__get__")))
  (htNoLetter:PySem.W.takesIn K (.builtin "object.__class__")=some true)
  (hmNoLetter:PySem.W.mroIn K CNoLetter (.type "object")=some true)
  (hbNoLetter:PySem.W.mroIn K CNoLetter (.type "BaseException")=some true)
  (rdRE:PySem.W.readsIn K CRoadError (.type "type")=true)
  (fcRE:PySem.W.findCls K (.ref CRoadError) (.type "type") "__init__"=some (.val (.builtin "ValueError.__init__")))
  (sgRE:PySem.W.specialIn K (.ref CRoadError) "__getattribute__"=some (some (.builtin "type.__getattribute__")))
  (hnum:PySem.W.findIn K (.ref CNoLetter) "number"=some none)
  (icRoadError:PySem.W.isClsIn K CRoadError=true)
  (tyRoadError:PySem.W.typeIn K (.ref CRoadError)=some (.type "type"))
  (icNoHouse:PySem.W.isClsIn K CNoHouse=true)
  (tyNoHouse:PySem.W.typeIn K (.ref CNoHouse)=some (.type "type"))
  (suNoLetter_ve:PySem.W.subIn K (.ref CNoLetter) (.type "ValueError")=some true)
  (suNoLetter_RoadError:PySem.W.subIn K (.ref CNoLetter) (.ref CRoadError)=some true)
  (suNoLetter_NoHouse:PySem.W.subIn K (.ref CNoLetter) (.ref CNoHouse)=some false)
  (neNoLetter_NoHouse:(Value.ref CNoLetter==Value.ref CNoHouse)=false):
  ∃fd:FuncData,(∀(s:Shared) (v:Value),BindsTo s fd ⟨[v],[]⟩ [("_law_script",v)])∧∀base:Heap,K.In base→base.Ns mainGlobals mg→FnOk l.prog w K mg base CX0 8 fa fd ["_law_script"] (spLaw K):=by
 have e:=hfa.symm.trans (PySem.W.mg_of X G alaw)
 cases e
 have Cl_Net:Cls K CNet:=⟨pgNet,hdNet,poNet,saNet⟩
 have at_Net:=PySem.W.mg_of X G aCNet
 have bNet_init:=FNet_init.binds (ps:=["self","houses","roads"]) fun _ _ _ _ _ _ us hl=>by (obtain ⟨_,_,_,rfl⟩:=len_3 hl);rfl
 have Mk_Net:Mk K CNet fNet_init:=⟨mkNet,aNet_init,iNet_init,kcNet⟩
 have D_Net_init:Inn K CNet "Net.__init__" sInit ["self","houses","roads"] fNet_init _:=⟨FNet_init,Mk_Net,bNet_init⟩
 have bNet_houses:=FNet_houses.binds (ps:=["self"]) fun _ _ _ _ _ _ us hl=>by (obtain ⟨_,rfl⟩:=len_1 hl);rfl
 have M_Net_houses:Mn K CNet "houses" "Net.houses" sHousesM ["self"] fNet_houses _:=⟨FNet_houses,⟨aNet_houses,iNet_houses,FNet_houses.kp⟩,bNet_houses⟩
 have bNet_roads:=FNet_roads.binds (ps:=["self"]) fun _ _ _ _ _ _ us hl=>by (obtain ⟨_,rfl⟩:=len_1 hl);rfl
 have M_Net_roads:Mn K CNet "roads" "Net.roads" sRoadsM ["self"] fNet_roads _:=⟨FNet_roads,⟨aNet_roads,iNet_roads,FNet_roads.kp⟩,bNet_roads⟩
 have bNet_road:=FNet_road.binds (ps:=["self","number"]) fun _ _ _ _ _ _ us hl=>by (obtain ⟨_,_,rfl⟩:=len_2 hl);rfl
 have M_Net_road:Mn K CNet "road" "Net.road" sRoadM ["self","number"] fNet_road _:=⟨FNet_road,⟨aNet_road,iNet_road,FNet_road.kp⟩,bNet_road⟩
 have bNet_out_of:=FNet_out_of.binds (ps:=["self","house"]) fun _ _ _ _ _ _ us hl=>by (obtain ⟨_,_,rfl⟩:=len_2 hl);rfl
 have M_Net_out_of:Mn K CNet "out_of" "Net.out_of" sOut ["self","house"] fNet_out_of _:=⟨FNet_out_of,⟨aNet_out_of,iNet_out_of,FNet_out_of.kp⟩,bNet_out_of⟩
 have bNet_need_house:=FNet_need_house.binds (ps:=["self","house"]) fun _ _ _ _ _ _ us hl=>by (obtain ⟨_,_,rfl⟩:=len_2 hl);rfl
 have M_Net_need_house:Mn K CNet "need_house" "Net.need_house" sNeed ["self","house"] fNet_need_house _:=⟨FNet_need_house,⟨aNet_need_house,iNet_need_house,FNet_need_house.kp⟩,bNet_need_house⟩
 have Cl_Ways:Cls K CWays:=⟨pgWays,hdWays,poWays,saWays⟩
 have at_Ways:=PySem.W.mg_of X G aCWays
 have bWays_init:=FWays_init.binds (ps:=["self","net"]) fun _ _ _ _ _ _ us hl=>by (obtain ⟨_,_,rfl⟩:=len_2 hl);rfl
 have Mk_Ways:Mk K CWays fWays_init:=⟨mkWays,aWays_init,iWays_init,kcWays⟩
 have D_Ways_init:Inn K CWays "Ways.__init__" sWI ["self","net"] fWays_init _:=⟨FWays_init,Mk_Ways,bWays_init⟩
 have bWays_set_way:=FWays_set_way.binds (ps:=["self","house","goal","road"]) fun _ _ _ _ _ _ us hl=>by (obtain ⟨_,_,_,_,rfl⟩:=len_4 hl);rfl
 have M_Ways_set_way:Mn K CWays "set_way" "Ways.set_way" sSW ["self","house","goal","road"] fWays_set_way _:=⟨FWays_set_way,⟨aWays_set_way,iWays_set_way,FWays_set_way.kp⟩,bWays_set_way⟩
 have bWays_way:=FWays_way.binds (ps:=["self","house","goal"]) fun _ _ _ _ _ _ us hl=>by (obtain ⟨_,_,_,rfl⟩:=len_3 hl);rfl
 have M_Ways_way:Mn K CWays "way" "Ways.way" sWy ["self","house","goal"] fWays_way _:=⟨FWays_way,⟨aWays_way,iWays_way,FWays_way.kp⟩,bWays_way⟩
 have bWays_need_pair:=FWays_need_pair.binds (ps:=["self","house","goal"]) fun _ _ _ _ _ _ us hl=>by (obtain ⟨_,_,_,rfl⟩:=len_3 hl);rfl
 have M_Ways_need_pair:Mn K CWays "need_pair" "Ways.need_pair" sNP ["self","house","goal"] fWays_need_pair _:=⟨FWays_need_pair,⟨aWays_need_pair,iWays_need_pair,FWays_need_pair.kp⟩,bWays_need_pair⟩
 have Cl_Walk:Cls K CWalk:=⟨pgWalk,hdWalk,poWalk,saWalk⟩
 have at_Walk:=PySem.W.mg_of X G aCWalk
 have bWalk_init:=FWalk_init.binds (ps:=["self","net","letters"]) fun _ _ _ _ _ _ us hl=>by (obtain ⟨_,_,_,rfl⟩:=len_3 hl);rfl
 have Mk_Walk:Mk K CWalk fWalk_init:=⟨mkWalk,aWalk_init,iWalk_init,kcWalk⟩
 have D_Walk_init:Inn K CWalk "Walk.__init__" sWkI ["self","net","letters"] fWalk_init _:=⟨FWalk_init,Mk_Walk,bWalk_init⟩
 have bWalk_take_in:=FWalk_take_in.binds (ps:=["self","letter"]) fun _ _ _ _ _ _ us hl=>by (obtain ⟨_,_,rfl⟩:=len_2 hl);rfl
 have M_Walk_take_in:Mn K CWalk "take_in" "Walk.take_in" sTake ["self","letter"] fWalk_take_in _:=⟨FWalk_take_in,⟨aWalk_take_in,iWalk_take_in,FWalk_take_in.kp⟩,bWalk_take_in⟩
 have bWalk_send:=FWalk_send.binds (ps:=["self","bag"]) fun _ _ _ _ _ _ us hl=>by (obtain ⟨_,_,rfl⟩:=len_2 hl);rfl
 have M_Walk_send:Mn K CWalk "send" "Walk.send" sSend ["self","bag"] fWalk_send _:=⟨FWalk_send,⟨aWalk_send,iWalk_send,FWalk_send.kp⟩,bWalk_send⟩
 have bWalk_goal:=FWalk_goal.binds (ps:=["self","number"]) fun _ _ _ _ _ _ us hl=>by (obtain ⟨_,_,rfl⟩:=len_2 hl);rfl
 have M_Walk_goal:Mn K CWalk "goal" "Walk.goal" sGoal ["self","number"] fWalk_goal _:=⟨FWalk_goal,⟨aWalk_goal,iWalk_goal,FWalk_goal.kp⟩,bWalk_goal⟩
 have bWalk_last_house:=FWalk_last_house.binds (ps:=["self","number"]) fun _ _ _ _ _ _ us hl=>by (obtain ⟨_,_,rfl⟩:=len_2 hl);rfl
 have M_Walk_last_house:Mn K CWalk "last_house" "Walk.last_house" sLastH ["self","number"] fWalk_last_house _:=⟨FWalk_last_house,⟨aWalk_last_house,iWalk_last_house,FWalk_last_house.kp⟩,bWalk_last_house⟩
 have bWalk_last_turn:=FWalk_last_turn.binds (ps:=["self","number"]) fun _ _ _ _ _ _ us hl=>by (obtain ⟨_,_,rfl⟩:=len_2 hl);rfl
 have M_Walk_last_turn:Mn K CWalk "last_turn" "Walk.last_turn" sLastT ["self","number"] fWalk_last_turn _:=⟨FWalk_last_turn,⟨aWalk_last_turn,iWalk_last_turn,FWalk_last_turn.kp⟩,bWalk_last_turn⟩
 have bWalk_home_turn:=FWalk_home_turn.binds (ps:=["self","number"]) fun _ _ _ _ _ _ us hl=>by (obtain ⟨_,_,rfl⟩:=len_2 hl);rfl
 have M_Walk_home_turn:Mn K CWalk "home_turn" "Walk.home_turn" sHomeT ["self","number"] fWalk_home_turn _:=⟨FWalk_home_turn,⟨aWalk_home_turn,iWalk_home_turn,FWalk_home_turn.kp⟩,bWalk_home_turn⟩
 have Cl_Day:Cls K CDay:=⟨pgDay,hdDay,poDay,saDay⟩
 have at_Day:=PySem.W.mg_of X G aCDay
 have bDay_init:=FDay_init.binds (ps:=["self","net","first"]) fun _ _ _ _ _ _ us hl=>by (obtain ⟨_,_,_,rfl⟩:=len_3 hl);rfl
 have Mk_Day:Mk K CDay fDay_init:=⟨mkDay,aDay_init,iDay_init,kcDay⟩
 have D_Day_init:Inn K CDay "Day.__init__" sDyI ["self","net","first"] fDay_init _:=⟨FDay_init,Mk_Day,bDay_init⟩
 have bDay_now:=FDay_now.binds (ps:=["self"]) fun _ _ _ _ _ _ us hl=>by (obtain ⟨_,rfl⟩:=len_1 hl);rfl
 have M_Day_now:Mn K CDay "now" "Day.now" sNow ["self"] fDay_now _:=⟨FDay_now,⟨aDay_now,iDay_now,FDay_now.kp⟩,bDay_now⟩
 have bDay_post:=FDay_post.binds (ps:=["self","house","goal"]) fun _ _ _ _ _ _ us hl=>by (obtain ⟨_,_,_,rfl⟩:=len_3 hl);rfl
 have M_Day_post:Mn K CDay "post" "Day.post" sPost ["self","house","goal"] fDay_post _:=⟨FDay_post,⟨aDay_post,iDay_post,FDay_post.kp⟩,bDay_post⟩
 have bDay_pass_turn:=FDay_pass_turn.binds (ps:=["self"]) fun _ _ _ _ _ _ us hl=>by (obtain ⟨_,rfl⟩:=len_1 hl);rfl
 have M_Day_pass_turn:Mn K CDay "pass_turn" "Day.pass_turn" sPass ["self"] fDay_pass_turn _:=⟨FDay_pass_turn,⟨aDay_pass_turn,iDay_pass_turn,FDay_pass_turn.kp⟩,bDay_pass_turn⟩
 have bDay_letters:=FDay_letters.binds (ps:=["self"]) fun _ _ _ _ _ _ us hl=>by (obtain ⟨_,rfl⟩:=len_1 hl);rfl
 have M_Day_letters:Mn K CDay "letters" "Day.letters" sLts ["self"] fDay_letters _:=⟨FDay_letters,⟨aDay_letters,iDay_letters,FDay_letters.kp⟩,bDay_letters⟩
 have bis_whole:=Fis_whole.binds (ps:=["thing"]) fun _ _ _ _ _ _ us hl=>by (obtain ⟨_,rfl⟩:=len_1 hl);rfl
 have D_is_whole:Dn K mg "is_whole" sWhole ["thing"] fis_whole _:=⟨Fis_whole,PySem.W.mg_of X G ais_whole,bis_whole⟩
 have bis_whole_within:=Fis_whole_within.binds (ps:=["thing","least","greatest"]) fun _ _ _ _ _ _ us hl=>by (obtain ⟨_,_,_,rfl⟩:=len_3 hl);rfl
 have D_is_whole_within:Dn K mg "is_whole_within" sWithin ["thing","least","greatest"] fis_whole_within _:=⟨Fis_whole_within,PySem.W.mg_of X G ais_whole_within,bis_whole_within⟩
 have bis_tuple_of:=Fis_tuple_of.binds (ps:=["thing","length"]) fun _ _ _ _ _ _ us hl=>by (obtain ⟨_,_,rfl⟩:=len_2 hl);rfl
 have D_is_tuple_of:Dn K mg "is_tuple_of" sTupOf ["thing","length"] fis_tuple_of _:=⟨Fis_tuple_of,PySem.W.mg_of X G ais_tuple_of,bis_tuple_of⟩
 have bare_unlike_houses:=Fare_unlike_houses.binds (ps:=["houses","one","other"]) fun _ _ _ _ _ _ us hl=>by (obtain ⟨_,_,_,rfl⟩:=len_3 hl);rfl
 have D_are_unlike_houses:Dn K mg "are_unlike_houses" sUnlike ["houses","one","other"] fare_unlike_houses _:=⟨Fare_unlike_houses,PySem.W.mg_of X G aare_unlike_houses,bare_unlike_houses⟩
 have bis_name:=Fis_name.binds (ps:=["thing"]) fun _ _ _ _ _ _ us hl=>by (obtain ⟨_,rfl⟩:=len_1 hl);rfl
 have D_is_name:Dn K mg "is_name" sName ["thing"] fis_name _:=⟨Fis_name,PySem.W.mg_of X G ais_name,bis_name⟩
 have bare_houses:=Fare_houses.binds (ps:=["things"]) fun _ _ _ _ _ _ us hl=>by (obtain ⟨_,rfl⟩:=len_1 hl);rfl
 have D_are_houses:Dn K mg "are_houses" sAreH ["things"] fare_houses _:=⟨Fare_houses,PySem.W.mg_of X G aare_houses,bare_houses⟩
 have bis_road:=Fis_road.binds (ps:=["houses","thing"]) fun _ _ _ _ _ _ us hl=>by (obtain ⟨_,_,rfl⟩:=len_2 hl);rfl
 have D_is_road:Dn K mg "is_road" sRoad ["houses","thing"] fis_road _:=⟨Fis_road,PySem.W.mg_of X G ais_road,bis_road⟩
 have bare_roads:=Fare_roads.binds (ps:=["houses","things"]) fun _ _ _ _ _ _ us hl=>by (obtain ⟨_,_,rfl⟩:=len_2 hl);rfl
 have D_are_roads:Dn K mg "are_roads" sAreR ["houses","things"] fare_roads _:=⟨Fare_roads,PySem.W.mg_of X G aare_roads,bare_roads⟩
 have bis_letter:=Fis_letter.binds (ps:=["houses","thing"]) fun _ _ _ _ _ _ us hl=>by (obtain ⟨_,_,rfl⟩:=len_2 hl);rfl
 have D_is_letter:Dn K mg "is_letter" sIsL ["houses","thing"] fis_letter _:=⟨Fis_letter,PySem.W.mg_of X G ais_letter,bis_letter⟩
 have bturns_apart:=Fturns_apart.binds (ps:=["letters"]) fun _ _ _ _ _ _ us hl=>by (obtain ⟨_,rfl⟩:=len_1 hl);rfl
 have D_turns_apart:Dn K mg "turns_apart" sApart ["letters"] fturns_apart _:=⟨Fturns_apart,PySem.W.mg_of X G aturns_apart,bturns_apart⟩
 have bletters_of:=Fletters_of.binds (ps:=["net","some"]) fun _ _ _ _ _ _ us hl=>by (obtain ⟨_,_,rfl⟩:=len_2 hl);rfl
 have D_letters_of:Dn K mg "letters_of" sLof ["net","some"] fletters_of _:=⟨Fletters_of,PySem.W.mg_of X G aletters_of,bletters_of⟩
 have bis_shorter_by:=Fis_shorter_by.binds (ps:=["road","found"]) fun _ _ _ _ _ _ us hl=>by (obtain ⟨_,_,rfl⟩:=len_2 hl);rfl
 have D_is_shorter_by:Dn K mg "is_shorter_by" sShort ["road","found"] fis_shorter_by _:=⟨Fis_shorter_by,PySem.W.mg_of X G ais_shorter_by,bis_shorter_by⟩
 have bleast_turns_from:=Fleast_turns_from.binds (ps:=["roads","house"]) fun _ _ _ _ _ _ us hl=>by (obtain ⟨_,_,rfl⟩:=len_2 hl);rfl
 have D_least_turns_from:Dn K mg "least_turns_from" sLeast ["roads","house"] fleast_turns_from _:=⟨Fleast_turns_from,PySem.W.mg_of X G aleast_turns_from,bleast_turns_from⟩
 have bbegins_shortest:=Fbegins_shortest.binds (ps:=["road","far_from","goal"]) fun _ _ _ _ _ _ us hl=>by (obtain ⟨_,_,_,rfl⟩:=len_3 hl);rfl
 have D_begins_shortest:Dn K mg "begins_shortest" sBeg ["road","far_from","goal"] fbegins_shortest _:=⟨Fbegins_shortest,PySem.W.mg_of X G abegins_shortest,bbegins_shortest⟩
 have bshortest:=Fshortest.binds (ps:=["net"]) fun _ _ _ _ _ _ us hl=>by (obtain ⟨_,rfl⟩:=len_1 hl);rfl
 have D_shortest:Dn K mg "shortest" sSh ["net"] fshortest _:=⟨Fshortest,PySem.W.mg_of X G ashortest,bshortest⟩
 have bqueues_at:=Fqueues_at.binds (ps:=["walk","going","ways","turn"]) fun _ _ _ _ _ _ us hl=>by (obtain ⟨_,_,_,_,rfl⟩:=len_4 hl);rfl
 have D_queues_at:Dn K mg "queues_at" sQs ["walk","going","ways","turn"] fqueues_at _:=⟨Fqueues_at,PySem.W.mg_of X G aqueues_at,bqueues_at⟩
 have bbags_at:=Fbags_at.binds (ps:=["net","walk","going","ways","turn"]) fun _ _ _ _ _ _ us hl=>by (obtain ⟨_,_,_,_,_,rfl⟩:=len_5 hl);rfl
 have D_bags_at:Dn K mg "bags_at" sBa ["net","walk","going","ways","turn"] fbags_at _:=⟨Fbags_at,PySem.W.mg_of X G abags_at,bbags_at⟩
 have b_law_cell_at:=F_law_cell_at.binds (ps:=["_law_script","_law_k"]) fun _ _ _ _ _ _ us hl=>by (obtain ⟨_,_,rfl⟩:=len_2 hl);rfl
 have D__law_cell_at:Dn K mg "_law_cell_at" sAt ["_law_script","_law_k"] f_law_cell_at _:=⟨F_law_cell_at,PySem.W.mg_of X G a_law_cell_at,b_law_cell_at⟩
 have b_law_houses:=F_law_houses.binds (ps:=["_law_cell","_law_many"]) fun _ _ _ _ _ _ us hl=>by (obtain ⟨_,_,rfl⟩:=len_2 hl);rfl
 have D__law_houses:Dn K mg "_law_houses" sHousesN ["_law_cell","_law_many"] f_law_houses _:=⟨F_law_houses,PySem.W.mg_of X G a_law_houses,b_law_houses⟩
 have b_law_road:=F_law_road.binds (ps:=["_law_cell","_law_names"]) fun _ _ _ _ _ _ us hl=>by (obtain ⟨_,_,rfl⟩:=len_2 hl);rfl
 have D__law_road:Dn K mg "_law_road" sRd1 ["_law_cell","_law_names"] f_law_road _:=⟨F_law_road,PySem.W.mg_of X G a_law_road,b_law_road⟩
 have b_law_post:=F_law_post.binds (ps:=["_law_day","_law_house","_law_goal"]) fun _ _ _ _ _ _ us hl=>by (obtain ⟨_,_,_,rfl⟩:=len_3 hl);rfl
 have D__law_post:Dn K mg "_law_post" sLp ["_law_day","_law_house","_law_goal"] f_law_post _:=⟨F_law_post,PySem.W.mg_of X G a_law_post,b_law_post⟩
 have b_law_step:=F_law_step.binds (ps:=["_law_day","_law_posted","_law_names","_law_cell","_law_now"]) fun _ _ _ _ _ _ us hl=>by (obtain ⟨_,_,_,_,_,rfl⟩:=len_5 hl);rfl
 have D__law_step:Dn K mg "_law_step" sSt ["_law_day","_law_posted","_law_names","_law_cell","_law_now"] f_law_step _:=⟨F_law_step,PySem.W.mg_of X G a_law_step,b_law_step⟩
 have b_law_right:=F_law_right.binds (ps:=["_law_day","_law_posted","_law_now"]) fun _ _ _ _ _ _ us hl=>by (obtain ⟨_,_,_,rfl⟩:=len_3 hl);rfl
 have D__law_right:Dn K mg "_law_right" sRi ["_law_day","_law_posted","_law_now"] f_law_right _:=⟨F_law_right,PySem.W.mg_of X G a_law_right,b_law_right⟩
 have blaw:=Flaw.binds (ps:=["_law_script"]) fun _ _ _ _ _ _ us hl=>by (obtain ⟨_,rfl⟩:=len_1 hl);rfl
 have at_RoadError:=PySem.W.mg_of X G aCRoadError
 have at_NoLetter:=PySem.W.mg_of X G aCNoLetter
 have at_NoHouse:=PySem.W.mg_of X G aCNoHouse
 have at_NoRoad:=PySem.W.mg_of X G aCNoRoad
 have bNoLetter_init:=FNoLetter_init.binds (ps:=["self","number"]) fun _ _ _ _ _ _ us hl=>by (obtain ⟨_,_,rfl⟩:=len_2 hl);rfl
 have EX_RoadError:Exc K mg "RoadError" CRoadError _ _:=⟨at_RoadError,xiRoadError⟩
 have EX_NoHouse:Exc K mg "NoHouse" CNoHouse _ _:=⟨at_NoHouse,xiNoHouse⟩
 have EX_NoRoad:Exc K mg "NoRoad" CNoRoad _ _:=⟨at_NoRoad,xiNoRoad⟩
 have xsNoLetter_NoLetter:=excSub_of lCNoLetter xsNoLetter_NoLetter
 have Cn:Csts mg:=⟨⟨_,PySem.W.mg_of X G vMOST_HOUSES⟩,⟨_,PySem.W.mg_of X G vMOST_ROADS⟩,⟨_,PySem.W.mg_of X G vMOST_SIGNS⟩,⟨_,PySem.W.mg_of X G vMOST_TURNS⟩,⟨_,PySem.W.mg_of X G vMOST_ROOM⟩⟩
 have CL:CstL mg:=⟨⟨_,PySem.W.mg_of X G vMOST_LETTERS⟩,⟨_,PySem.W.mg_of X G vMOST_TURN⟩,⟨_,PySem.W.mg_of X G vMOST_APART⟩⟩
 have B:Blt mg:=⟨PySem.W.mg_none_of X G zlen,PySem.W.mg_none_of X G zrange,PySem.W.mg_none_of X G zisinstance,PySem.W.mg_none_of X G zall,PySem.W.mg_none_of X G zint,PySem.W.mg_none_of X G zbool,PySem.W.mg_none_of X G zstr,PySem.W.mg_none_of X G zlist,PySem.W.mg_none_of X G ztuple,PySem.W.mg_none_of X G zset,PySem.W.mg_none_of X G zValueError,PySem.W.mg_none_of X G zenumerate,PySem.W.mg_none_of X G zmax,PySem.W.mg_none_of X G zmin,PySem.W.mg_none_of X G zsum,PySem.W.mg_none_of X G zany,PySem.W.mg_none_of X G zdict,PySem.W.mg_none_of X G zsorted,PySem.W.mg_none_of X G zzip⟩
 obtain ⟨_,_,kV,dc,pm,an,cd,ct,_,rfl,_,_⟩:=id Flaw.ex
 refine ⟨PySem.W.fnOf "law" "law" (defArgs sLaw) (defBody sLaw) (defScope sLaw) .none kV dc pm an cd ct,fun s v=>.of_eq rfl,fun base _ _=>?_⟩
 have NC:NetC K CNet:=⟨Cl_Net,nNet_kept_houses,nNet_kept_roads⟩
 have KT:Kit K:=⟨kit_ib K⟩
 have G_is_whole:FnOk l.prog w K mg base CX0 1 fis_whole _ ["thing"] spWhole:=ok_whole Fis_whole B KT
 have G_is_whole_within:FnOk l.prog w K mg base CX0 2 fis_whole_within _ ["thing","least","greatest"] spWithin:=ok_within Fis_whole_within D_is_whole G_is_whole
 have G_is_tuple_of:FnOk l.prog w K mg base CX0 1 fis_tuple_of _ ["thing","length"] spTupOf:=ok_tupOf Fis_tuple_of B
 have G_are_unlike_houses:FnOk l.prog w K mg base CX0 1 fare_unlike_houses _ ["houses","one","other"] (spUnlike K):=ok_unlike Fare_unlike_houses
 have G_is_name:FnOk l.prog w K mg base CX0 1 fis_name _ ["thing"] spName:=ok_name Fis_name B Cn
 have G_are_houses:FnOk l.prog w K mg base CX0 2 fare_houses _ ["things"] spAreH:=ok_areH Fare_houses B Cn D_is_name G_is_name
 have G_is_road:FnOk l.prog w K mg base CX0 3 fis_road _ ["houses","thing"] (spRoad K):=ok_road Fis_road Cn D_is_tuple_of G_is_tuple_of D_are_unlike_houses G_are_unlike_houses D_is_whole_within G_is_whole_within
 have G_are_roads:FnOk l.prog w K mg base CX0 4 fare_roads _ ["houses","things"] (spAreR K):=ok_areR Fare_roads B Cn D_is_road G_is_road
 have G_Net_init:FnOk l.prog w K mg base CX0 5 fNet_init _ ["self","houses","roads"] (spInit K CNet):=ok_init FNet_init B NC D_are_houses G_are_houses D_are_roads G_are_roads
 have Gw:FnOk l.prog w K mg base CX0 1 fis_whole _ ["thing"] spWholeD:=ok_wholeD Fis_whole B
 have Gi:FnOk l.prog w K mg base CX0 2 fis_whole_within _ ["thing","least","greatest"] spWithinD:=ok_withinD Fis_whole_within D_is_whole Gw
 have Gt:FnOk l.prog w K mg base CX0 1 fis_tuple_of _ ["thing","length"] spTupOfD:=ok_tupOfD Fis_tuple_of B
 have Gu:FnOk l.prog w K mg base CX0 1 fare_unlike_houses _ ["houses","one","other"] spUnlikeD:=ok_unlikeD Fare_unlike_houses
 have xc_NoLetter:XC K mg "RoadError" CNoLetter CRoadError:=⟨EX_RoadError,⟨_,_,_,_,_,_,lCNoLetter,lCRoadError,xkNoLetter,xdNoLetter⟩,sxNoLetter,obNoLetter,rdRE,fcRE,sgRE,⟨gaNoLetter,noNoLetter,haNoLetter,hnNoLetter,htNoLetter,hmNoLetter,hbNoLetter⟩,hyNoLetter⟩
 have RC:RefP K CNoLetter CRoadError CNoHouse:=⟨xsNoLetter_NoLetter,(kit_sub icRoadError tyRoadError suNoLetter_RoadError (fun _=>rfl)),(kit_ty (by decide+kernel) suNoLetter_ve),kit_sub icNoHouse tyNoHouse suNoLetter_NoHouse (fun h=>absurd (h.symm.trans neNoLetter_NoHouse) (by decide)),⟨gaNoLetter,noNoLetter,haNoLetter,hnNoLetter,htNoLetter,hmNoLetter,hbNoLetter⟩,hnum,hyNoLetter⟩
 have WW:WaysC K CWays:=⟨Cl_Ways,nWays_net,nWays_told⟩
 have WC:WalkC K CWalk:=⟨Cl_Walk,nWalk_net,nWalk_goals,nWalk_steps⟩
 have DC:DayC K CDay:=⟨Cl_Day,nDay_net,nDay_present,nDay_posted,nDay_ways,nDay_shut_roads,nDay_walk,nDay_sent⟩
 have G_NoLetter_init:FnOk l.prog w K mg base CX0 1 fNoLetter_init _ ["self","number"] (spIL CNoLetter):=ok_iL FNoLetter_init xc_NoLetter at_RoadError hnum
 have G_Net_houses:FnOk l.prog w K mg base CX0 1 fNet_houses _ ["self"] (spHousesM CNet):=ok_housesM FNet_houses B NC
 have G_is_letter:FnOk l.prog w K mg base CX0 3 fis_letter _ ["houses","thing"] spLetD:=ok_isL Fis_letter CL D_is_tuple_of Gt D_are_unlike_houses Gu D_is_whole_within Gi
 have G_turns_apart:FnOk l.prog w K mg base CX0 1 fturns_apart _ ["letters"] spApart:=ok_apart Fturns_apart B
 have G_lof:FnOk l.prog w K mg base (CXd l.prog w) 4 fletters_of _ ["net","some"] (spLof CNet CNoLetter):=ok_lof Fletters_of B CL Cl_Net M_Net_houses G_Net_houses D_is_letter G_is_letter D_turns_apart G_turns_apart xc_NoLetter at_NoLetter kpNoLetter aNoLetter_init iNoLetter_init G_NoLetter_init bNoLetter_init
 have G_Net_roads:FnOk l.prog w K mg base CX0 1 fNet_roads _ ["self"] (spRoadsM CNet):=ok_roadsM FNet_roads B NC
 have G_Net_need_house:FnOk l.prog w K mg base (CXe l.prog w) 1 fNet_need_house _ ["self","house"] (spNeed CNet CNoHouse):=ok_need FNet_need_house NC PySem.F.excBase_ValueError EX_NoHouse
 have G_r1:FnOk l.prog w K mg base CX0 1 fNet_road _ ["self","number"] (spRoad0 CNet):=ok_road0 FNet_road B NC
 have G_Net_out_of:FnOk l.prog w K mg base (CXe l.prog w) 2 fNet_out_of _ ["self","house"] (spOut CNet CNoHouse (·.a)):=ok_out FNet_out_of B NC M_Net_need_house G_Net_need_house
 have G_is_shorter_by:FnOk l.prog w K mg base CX0 1 fis_shorter_by _ ["road","found"] spShort:=ok_short Fis_shorter_by
 have G_least_turns_from:FnOk l.prog w K mg base CX0 2 fleast_turns_from _ ["roads","house"] (spLeast K):=ok_least Fleast_turns_from D_is_shorter_by G_is_shorter_by
 have G_Ways_init:FnOk l.prog w K mg base CX0 1 fWays_init _ ["self","net"] (spWI CWays):=ok_wI FWays_init WW
 have G_Ways_need_pair:FnOk l.prog w K mg base (CXe l.prog w) 2 fWays_need_pair _ ["self","house","goal"] (spNP CWays CNet CNoHouse):=ok_np FWays_need_pair WW Cl_Net PySem.F.excBase_ValueError EX_NoHouse M_Net_houses G_Net_houses D_are_unlike_houses Gu
 have G_Ways_set_way:FnOk l.prog w K mg base (CXe l.prog w) 3 fWays_set_way _ ["self","house","goal","road"] (spSW CWays CNet CNoHouse CNoRoad):=ok_sw FWays_set_way WW Cl_Net PySem.F.excBase_ValueError EX_NoRoad M_Net_out_of G_Net_out_of M_Ways_need_pair G_Ways_need_pair
 have G_Ways_way:FnOk l.prog w K mg base (CXe l.prog w) 3 fWays_way _ ["self","house","goal"] (spWy CWays CNet CNoHouse):=ok_wy FWays_way WW M_Ways_need_pair G_Ways_need_pair
 have G_beg:FnOk l.prog w K mg base CX0 1 fbegins_shortest _ ["road","far_from","goal"] spBeg:=ok_beg Fbegins_shortest
 have G_sh:FnOk l.prog w K mg base CX0 4 fshortest _ ["net"] (spSh CWays CNet):=ok_sh Fshortest B WW Cl_Net at_Ways M_Net_houses G_Net_houses M_Net_roads G_Net_roads M_Net_out_of G_Net_out_of D_least_turns_from G_least_turns_from D_begins_shortest G_beg Mk_Ways D_Ways_init G_Ways_init M_Ways_set_way G_Ways_set_way
 have G_wk:FnOk l.prog w K mg base CX0 1 fWalk_take_in _ ["self","letter"] (spTake CWalk):=ok_take FWalk_take_in WC
 have G_wi:FnOk l.prog w K mg base CX0 2 fWalk_init _ ["self","net","letters"] (spWkI CWalk):=ok_wkI FWalk_init WC M_Walk_take_in G_wk
 have G_wg:FnOk l.prog w K mg base CX0 1 fWalk_goal _ ["self","number"] (spGoal CWalk):=ok_goal FWalk_goal WC
 have G_wh:FnOk l.prog w K mg base CX0 1 fWalk_last_house _ ["self","number"] (spLastH CWalk):=ok_lastH FWalk_last_house WC
 have G_wt:FnOk l.prog w K mg base CX0 1 fWalk_last_turn _ ["self","number"] (spLastT CWalk):=ok_lastT FWalk_last_turn WC
 have G_wm:FnOk l.prog w K mg base CX0 2 fWalk_home_turn _ ["self","number"] (spHomeT CWalk):=ok_homeT FWalk_home_turn WC M_Walk_last_house G_wh M_Walk_last_turn G_wt
 have G_ws:FnOk l.prog w K mg base CX0 2 fWalk_send _ ["self","bag"] (spSend CWalk CNet):=ok_send FWalk_send WC Cl_Net M_Net_road G_r1
 have G_qs:FnOk l.prog w K mg base CX0 4 fqueues_at _ ["walk","going","ways","turn"] (spQs K CWalk CWays CNet):=ok_qs Fqueues_at WC WW M_Walk_last_turn G_wt M_Walk_last_house G_wh M_Walk_goal G_wg M_Ways_way G_Ways_way
 have G_ba:FnOk l.prog w K mg base CX0 5 fbags_at _ ["net","walk","going","ways","turn"] (spBaF K CWalk CWays CNet):=ok_baF Fbags_at B Cl_Net D_queues_at G_qs M_Net_road G_r1
 have G_di:FnOk l.prog w K mg base CX0 5 fDay_init _ ["self","net","first"] (spDyI CDay CWalk CWays CNet):=ok_dyI FDay_init DC at_Walk D_shortest G_sh Mk_Walk D_Walk_init G_wi
 have G_dn:FnOk l.prog w K mg base CX0 1 fDay_now _ ["self"] (spNow CDay CWalk CWays CNet):=ok_now FDay_now DC
 have G_dl:FnOk l.prog w K mg base CX0 1 fDay_letters _ ["self"] (spLts CDay CWalk CWays CNet):=ok_lts FDay_letters B DC
 have G_dp:FnOk l.prog w K mg base (CXd l.prog w) 5 fDay_post _ ["self","house","goal"] (spPost CDay CWalk CWays CNet CNoLetter):=ok_post FDay_post B DC Cl_Walk D_letters_of G_lof M_Walk_take_in G_wk
 have G_dt:FnOk l.prog w K mg base CX0 6 fDay_pass_turn _ ["self"] (spPass K CDay CWalk CWays CNet):=ok_pass FDay_pass_turn B DC Cl_Walk M_Walk_home_turn G_wm D_bags_at G_ba M_Walk_send G_ws
 have G_at:FnOk l.prog w K mg base CX0 1 f_law_cell_at _ ["_law_script","_law_k"] (spAt K):=ok_at F_law_cell_at B.len
 have G_hs:FnOk l.prog w K mg base CX0 1 f_law_houses _ ["_law_cell","_law_many"] spHousesN:=ok_housesN F_law_houses B
 have G_rd:FnOk l.prog w K mg base CX0 1 f_law_road _ ["_law_cell","_law_names"] spRd1:=ok_rd1 F_law_road B
 have G_lp:FnOk l.prog w K mg base CX0 6 f_law_post _ ["_law_day","_law_house","_law_goal"] (spLp CDay CWalk CWays CNet):=ok_lp F_law_post B KT Cl_Day RC at_RoadError at_NoLetter at_NoHouse M_Day_post G_dp
 have G_st:FnOk l.prog w K mg base CX0 7 f_law_step _ ["_law_day","_law_posted","_law_names","_law_cell","_law_now"] (spSt CDay CWalk CWays CNet):=ok_st F_law_step B D__law_post G_lp
 have G_ri:FnOk l.prog w K mg base CX0 2 f_law_right _ ["_law_day","_law_posted","_law_now"] (spRi CDay CWalk CWays CNet):=ok_ri F_law_right B KT Cl_Day M_Day_letters G_dl M_Day_now G_dn
 exact ok_law Flaw B at_Net at_Day Cl_Day D__law_cell_at G_at D__law_houses G_hs D__law_road G_rd Mk_Net D_Net_init G_Net_init Mk_Day D_Day_init G_di D__law_step G_st D__law_right G_ri M_Day_pass_turn G_dt M_Day_post G_dp
theorem walk {l:PySem.W.OpenLaw} {q:Program} {loose:List Str} {XP:(Str→Option Value)→Heap→Prop} {YP:World→Heap→Prop} {d:DefRec} {K:Params→PySem.W.Frag} (hn:l.most=some 63) (hdf:d.params.defaults=[])
  (hY:∀(w:World) (h:Heap),YP w h→(K w.params).In h)
  (F:∀(w:World) (mg:Str→Option Value) (fa:Addr) (h:Heap),(K w.params).In h→h.Ns mainGlobals mg→mg d.name=some (.ref fa)→
   ∃fd:FuncData,(∀(s:Shared) (u:Value),BindsTo s fd ⟨[u],[]⟩ [("_law_script",u)])∧∀base:Heap,(K w.params).In base→base.Ns mainGlobals mg→FnOk l.prog w (K w.params) mg base CX0 8 fa fd ["_law_script"] (spLaw (K w.params))):
  PySem.W.WalkO q loose XP YP l.row.toRowW d [] (fun f vs=>PySem.call f vs):=
 L2.walk_of (n:=63) (k:=8) (x:="_law_script") (CX:=fun _=>CX0) (sp:=fun w=>spLaw (K w.params)) hn (by decide) hdf ⟨rfl,by decide,by decide⟩ hY F (fun _ _ a ns hl _ hS=>⟨a,ns,rfl,hS,hl,fun _=>rfl⟩) fun _ _ _ _ _ z=>z
end K1
noncomputable def PySem.W.Fast.tw13173721850948130019:Unit:=()
noncomputable def PySem.W.Fast.tw2718745970896139153:Unit:=()
noncomputable def PySem.W.Fast.tw11523513727206742515:Unit:=()
noncomputable def PySem.W.Fast.tw12058018087460330720:Unit:=()
noncomputable def PySem.W.Fast.tw3033829322867523501:Unit:=()
noncomputable def PySem.W.Fast.tw16488619739915385903:Unit:=()
noncomputable def PySem.W.Fast.tw9055441562044877548:Unit:=()
noncomputable def PySem.W.Fast.tw12969219138113268158:Unit:=()
noncomputable def PySem.W.Fast.tw14463153365261627296:Unit:=()
noncomputable def PySem.W.Fast.tw18005813576333858224:Unit:=()
noncomputable def PySem.W.Fast.tw1717956342826109978:Unit:=()
noncomputable def PySem.W.Fast.tw9495238021770191956:Unit:=()
noncomputable def PySem.W.Fast.tw3093677267780356270:Unit:=()
noncomputable def PySem.W.Fast.tw17806146867081592520:Unit:=()
noncomputable def PySem.W.Fast.tw12729624172443165455:Unit:=()
noncomputable def PySem.W.Fast.tw13484269691183228433:Unit:=()
noncomputable def PySem.W.Fast.tw16834052578586706869:Unit:=()
noncomputable def PySem.W.Fast.tw1428445455888795397:Unit:=()
noncomputable def PySem.W.Fast.tw8694471672595592522:Unit:=()
noncomputable def PySem.W.Fast.tw5576955826460490539:Unit:=()
noncomputable def PySem.W.Fast.tw15328501901436944243:Unit:=()
noncomputable def PySem.W.Fast.tw2656090430603819850:Unit:=()
noncomputable def PySem.W.Fast.tw7428754945607870930:Unit:=()
noncomputable def PySem.W.Fast.tw5934010414599968498:Unit:=()
noncomputable def PySem.W.Fast.tw8227291817270638858:Unit:=()
noncomputable def PySem.W.Fast.tw3575923568935511093:Unit:=()
noncomputable def PySem.W.Fast.tw5139950150926695423:Unit:=()
noncomputable def PySem.W.Fast.tw7900996327912482320:Unit:=()
noncomputable def PySem.W.Fast.tw1231350421049506582:Unit:=()
noncomputable def PySem.W.Fast.tw17094836610252446824:Unit:=()
noncomputable def PySem.W.Fast.tw14734300418433716043:Unit:=()
noncomputable def PySem.W.Fast.tw8332619776175378119:Unit:=()
noncomputable def PySem.W.Fast.tw1186792397496997276:Unit:=()
noncomputable def PySem.W.Fast.tw4728486366376807683:Unit:=()
noncomputable def PySem.W.Fast.tw1248660270385374040:Unit:=()
noncomputable def PySem.W.Fast.tw16789770883591547008:Unit:=()
noncomputable def PySem.W.Fast.tw9296011876588886298:Unit:=()
noncomputable def PySem.W.Fast.tw3091997171528896087:Unit:=()
noncomputable def PySem.W.Fast.tw1893577333893118000:Unit:=()
noncomputable def PySem.W.Fast.tw5717812979365270786:Unit:=()
noncomputable def PySem.W.Fast.tw12643382897642496863:Unit:=()
noncomputable def PySem.W.Fast.tw12781809693772403706:Unit:=()
noncomputable def PySem.W.Fast.tw16732872644835058152:Unit:=()
noncomputable def PySem.W.Fast.tw13037808368461526874:Unit:=()
noncomputable def PySem.W.Fast.tw1276547756969848236:Unit:=()
noncomputable def PySem.W.Fast.tw18170737886349108712:Unit:=()
noncomputable def PySem.W.Fast.tw12612317993169218881:Unit:=()
noncomputable def PySem.W.Fast.tw16172052367389805714:Unit:=()
noncomputable def PySem.W.Fast.tw4633100271594396303:Unit:=()
noncomputable def PySem.W.Fast.tw1930189076610356878:Unit:=()
noncomputable def PySem.W.Fast.tw15833491598940176123:Unit:=()
noncomputable def PySem.W.Fast.tw7414389867270816123:Unit:=()
noncomputable def PySem.W.Fast.tw9629379361881070022:Unit:=()
noncomputable def PySem.W.Fast.tw17471684527690148775:Unit:=()
noncomputable def PySem.W.Fast.tw6038539412449577491:Unit:=()
noncomputable def PySem.W.Fast.tw747480549068000296:Unit:=()
noncomputable def PySem.W.Fast.tw2532772470357449006:Unit:=()
open PySem PySem.W PyProof.Rows
set_option maxRecDepth 100000 in
set_option maxHeartbeats 0 in
theorem PySem.Challenge.cw_postroad_k71_letters_posted_holds : PySem.Challenge.rw_postroad_k71_letters_posted.Holds := by
 w_on;o_law;k_head;(case hw=>w_witness2)
 k_fill
 refine K1.walk (l:=PySem.Challenge.rw_postroad_k71_letters_posted) rfl rfl (fun w h Y=>PySem.W.kIn_of Y) ?F
 case F=>
  intro w mg fa h KX G hmg
  refine' K1.all_mk KX G hmg ?aCNet ?pgNet ?hdNet ?poNet ?saNet ?mkNet ?kcNet ?nNet_kept_houses ?nNet_kept_roads ?aNet_init ?iNet_init ?FNet_init ?aNet_houses ?iNet_houses ?FNet_houses ?aNet_roads ?iNet_roads ?FNet_roads ?aNet_road ?iNet_road ?FNet_road ?aNet_out_of ?iNet_out_of ?FNet_out_of ?aNet_need_house ?iNet_need_house ?FNet_need_house ?aCWays ?pgWays ?hdWays ?poWays ?saWays ?mkWays ?kcWays ?nWays_net ?nWays_told ?aWays_init ?iWays_init ?FWays_init ?aWays_set_way ?iWays_set_way ?FWays_set_way ?aWays_way ?iWays_way ?FWays_way ?aWays_need_pair ?iWays_need_pair ?FWays_need_pair ?aCWalk ?pgWalk ?hdWalk ?poWalk ?saWalk ?mkWalk ?kcWalk ?nWalk_net ?nWalk_goals ?nWalk_steps ?aWalk_init ?iWalk_init ?FWalk_init ?aWalk_take_in ?iWalk_take_in ?FWalk_take_in ?aWalk_send ?iWalk_send ?FWalk_send ?aWalk_goal ?iWalk_goal ?FWalk_goal ?aWalk_last_house ?iWalk_last_house ?FWalk_last_house ?aWalk_last_turn ?iWalk_last_turn ?FWalk_last_turn ?aWalk_home_turn ?iWalk_home_turn ?FWalk_home_turn ?aCDay ?pgDay ?hdDay ?poDay ?saDay ?mkDay ?kcDay ?nDay_net ?nDay_present ?nDay_posted ?nDay_ways ?nDay_shut_roads ?nDay_walk ?nDay_sent ?aDay_init ?iDay_init ?FDay_init ?aDay_now ?iDay_now ?FDay_now ?aDay_post ?iDay_post ?FDay_post ?aDay_pass_turn ?iDay_pass_turn ?FDay_pass_turn ?aDay_letters ?iDay_letters ?FDay_letters ?ais_whole ?Fis_whole ?ais_whole_within ?Fis_whole_within ?ais_tuple_of ?Fis_tuple_of ?aare_unlike_houses ?Fare_unlike_houses ?ais_name ?Fis_name ?aare_houses ?Fare_houses ?ais_road ?Fis_road ?aare_roads ?Fare_roads ?ais_letter ?Fis_letter ?aturns_apart ?Fturns_apart ?aletters_of ?Fletters_of ?ais_shorter_by ?Fis_shorter_by ?aleast_turns_from ?Fleast_turns_from ?abegins_shortest ?Fbegins_shortest ?ashortest ?Fshortest ?aqueues_at ?Fqueues_at ?abags_at ?Fbags_at ?a_law_cell_at ?F_law_cell_at ?a_law_houses ?F_law_houses ?a_law_road ?F_law_road ?a_law_post ?F_law_post ?a_law_step ?F_law_step ?a_law_right ?F_law_right ?alaw ?Flaw ?aCRoadError ?lCRoadError ?aCNoLetter ?lCNoLetter ?aCNoHouse ?lCNoHouse ?aCNoRoad ?lCNoRoad ?aNoLetter_init ?iNoLetter_init ?FNoLetter_init ?xiRoadError ?xiNoHouse ?xiNoRoad ?xsNoLetter_NoLetter ?vMOST_HOUSES ?vMOST_ROADS ?vMOST_SIGNS ?vMOST_TURNS ?vMOST_ROOM ?vMOST_LETTERS ?vMOST_TURN ?vMOST_APART ?zlen ?zrange ?zisinstance ?zall ?zint ?zbool ?zstr ?zlist ?ztuple ?zset ?zValueError ?zenumerate ?zmax ?zmin ?zsum ?zany ?zdict ?zsorted ?zzip ?xkNoLetter ?xdNoLetter ?sxNoLetter ?obNoLetter ?hyNoLetter ?kpNoLetter ?gaNoLetter ?noNoLetter ?haNoLetter ?hnNoLetter ?htNoLetter ?hmNoLetter ?hbNoLetter ?rdRE ?fcRE ?sgRE ?hnum ?icRoadError ?tyRoadError ?icNoHouse ?tyNoHouse ?suNoLetter_ve ?suNoLetter_RoadError ?suNoLetter_NoHouse ?neNoLetter_NoHouse
  (case aCNet=>k_is)
  (case pgNet=>k_is)
  (case hdNet=>k_is)
  (case poNet=>k_is)
  (case saNet=>k_is)
  (case mkNet=>k_is)
  (case kcNet=>k_is)
  (case nNet_kept_houses=>k_is)
  (case nNet_kept_roads=>k_is)
  (case aNet_init=>k_is)
  (case iNet_init=>k_is)
  (case FNet_init=>refine' L2.fun_mk ?z ?y ?x;(case z=>k_is);(case y=>k_is);(case x=>k_is))
  (case aNet_houses=>k_is)
  (case iNet_houses=>k_is)
  (case FNet_houses=>refine' L2.fun_mk ?z ?y ?x;(case z=>k_is);(case y=>k_is);(case x=>k_is))
  (case aNet_roads=>k_is)
  (case iNet_roads=>k_is)
  (case FNet_roads=>refine' L2.fun_mk ?z ?y ?x;(case z=>k_is);(case y=>k_is);(case x=>k_is))
  (case aNet_road=>k_is)
  (case iNet_road=>k_is)
  (case FNet_road=>refine' L2.fun_mk ?z ?y ?x;(case z=>k_is);(case y=>k_is);(case x=>k_is))
  (case aNet_out_of=>k_is)
  (case iNet_out_of=>k_is)
  (case FNet_out_of=>refine' L2.fun_mk ?z ?y ?x;(case z=>k_is);(case y=>k_is);(case x=>k_is))
  (case aNet_need_house=>k_is)
  (case iNet_need_house=>k_is)
  (case FNet_need_house=>refine' L2.fun_mk ?z ?y ?x;(case z=>k_is);(case y=>k_is);(case x=>k_is))
  (case aCWays=>k_is)
  (case pgWays=>k_is)
  (case hdWays=>k_is)
  (case poWays=>k_is)
  (case saWays=>k_is)
  (case mkWays=>k_is)
  (case kcWays=>k_is)
  (case nWays_net=>k_is)
  (case nWays_told=>k_is)
  (case aWays_init=>k_is)
  (case iWays_init=>k_is)
  (case FWays_init=>refine' L2.fun_mk ?z ?y ?x;(case z=>k_is);(case y=>k_is);(case x=>k_is))
  (case aWays_set_way=>k_is)
  (case iWays_set_way=>k_is)
  (case FWays_set_way=>refine' L2.fun_mk ?z ?y ?x;(case z=>k_is);(case y=>k_is);(case x=>k_is))
  (case aWays_way=>k_is)
  (case iWays_way=>k_is)
  (case FWays_way=>refine' L2.fun_mk ?z ?y ?x;(case z=>k_is);(case y=>k_is);(case x=>k_is))
  (case aWays_need_pair=>k_is)
  (case iWays_need_pair=>k_is)
  (case FWays_need_pair=>refine' L2.fun_mk ?z ?y ?x;(case z=>k_is);(case y=>k_is);(case x=>k_is))
  (case aCWalk=>k_is)
  (case pgWalk=>k_is)
  (case hdWalk=>k_is)
  (case poWalk=>k_is)
  (case saWalk=>k_is)
  (case mkWalk=>k_is)
  (case kcWalk=>k_is)
  (case nWalk_net=>k_is)
  (case nWalk_goals=>k_is)
  (case nWalk_steps=>k_is)
  (case aWalk_init=>k_is)
  (case iWalk_init=>k_is)
  (case FWalk_init=>refine' L2.fun_mk ?z ?y ?x;(case z=>k_is);(case y=>k_is);(case x=>k_is))
  (case aWalk_take_in=>k_is)
  (case iWalk_take_in=>k_is)
  (case FWalk_take_in=>refine' L2.fun_mk ?z ?y ?x;(case z=>k_is);(case y=>k_is);(case x=>k_is))
  (case aWalk_send=>k_is)
  (case iWalk_send=>k_is)
  (case FWalk_send=>refine' L2.fun_mk ?z ?y ?x;(case z=>k_is);(case y=>k_is);(case x=>k_is))
  (case aWalk_goal=>k_is)
  (case iWalk_goal=>k_is)
  (case FWalk_goal=>refine' L2.fun_mk ?z ?y ?x;(case z=>k_is);(case y=>k_is);(case x=>k_is))
  (case aWalk_last_house=>k_is)
  (case iWalk_last_house=>k_is)
  (case FWalk_last_house=>refine' L2.fun_mk ?z ?y ?x;(case z=>k_is);(case y=>k_is);(case x=>k_is))
  (case aWalk_last_turn=>k_is)
  (case iWalk_last_turn=>k_is)
  (case FWalk_last_turn=>refine' L2.fun_mk ?z ?y ?x;(case z=>k_is);(case y=>k_is);(case x=>k_is))
  (case aWalk_home_turn=>k_is)
  (case iWalk_home_turn=>k_is)
  (case FWalk_home_turn=>refine' L2.fun_mk ?z ?y ?x;(case z=>k_is);(case y=>k_is);(case x=>k_is))
  (case aCDay=>k_is)
  (case pgDay=>k_is)
  (case hdDay=>k_is)
  (case poDay=>k_is)
  (case saDay=>k_is)
  (case mkDay=>k_is)
  (case kcDay=>k_is)
  (case nDay_net=>k_is)
  (case nDay_present=>k_is)
  (case nDay_posted=>k_is)
  (case nDay_ways=>k_is)
  (case nDay_shut_roads=>k_is)
  (case nDay_walk=>k_is)
  (case nDay_sent=>k_is)
  (case aDay_init=>k_is)
  (case iDay_init=>k_is)
  (case FDay_init=>refine' L2.fun_mk ?z ?y ?x;(case z=>k_is);(case y=>k_is);(case x=>k_is))
  (case aDay_now=>k_is)
  (case iDay_now=>k_is)
  (case FDay_now=>refine' L2.fun_mk ?z ?y ?x;(case z=>k_is);(case y=>k_is);(case x=>k_is))
  (case aDay_post=>k_is)
  (case iDay_post=>k_is)
  (case FDay_post=>refine' L2.fun_mk ?z ?y ?x;(case z=>k_is);(case y=>k_is);(case x=>k_is))
  (case aDay_pass_turn=>k_is)
  (case iDay_pass_turn=>k_is)
  (case FDay_pass_turn=>refine' L2.fun_mk ?z ?y ?x;(case z=>k_is);(case y=>k_is);(case x=>k_is))
  (case aDay_letters=>k_is)
  (case iDay_letters=>k_is)
  (case FDay_letters=>refine' L2.fun_mk ?z ?y ?x;(case z=>k_is);(case y=>k_is);(case x=>k_is))
  (case ais_whole=>k_is)
  (case Fis_whole=>refine' L2.fun_mk ?z ?y ?x;(case z=>k_is);(case y=>k_is);(case x=>k_is))
  (case ais_whole_within=>k_is)
  (case Fis_whole_within=>refine' L2.fun_mk ?z ?y ?x;(case z=>k_is);(case y=>k_is);(case x=>k_is))
  (case ais_tuple_of=>k_is)
  (case Fis_tuple_of=>refine' L2.fun_mk ?z ?y ?x;(case z=>k_is);(case y=>k_is);(case x=>k_is))
  (case aare_unlike_houses=>k_is)
  (case Fare_unlike_houses=>refine' L2.fun_mk ?z ?y ?x;(case z=>k_is);(case y=>k_is);(case x=>k_is))
  (case ais_name=>k_is)
  (case Fis_name=>refine' L2.fun_mk ?z ?y ?x;(case z=>k_is);(case y=>k_is);(case x=>k_is))
  (case aare_houses=>k_is)
  (case Fare_houses=>refine' L2.fun_mk ?z ?y ?x;(case z=>k_is);(case y=>k_is);(case x=>k_is))
  (case ais_road=>k_is)
  (case Fis_road=>refine' L2.fun_mk ?z ?y ?x;(case z=>k_is);(case y=>k_is);(case x=>k_is))
  (case aare_roads=>k_is)
  (case Fare_roads=>refine' L2.fun_mk ?z ?y ?x;(case z=>k_is);(case y=>k_is);(case x=>k_is))
  (case ais_letter=>k_is)
  (case Fis_letter=>refine' L2.fun_mk ?z ?y ?x;(case z=>k_is);(case y=>k_is);(case x=>k_is))
  (case aturns_apart=>k_is)
  (case Fturns_apart=>refine' L2.fun_mk ?z ?y ?x;(case z=>k_is);(case y=>k_is);(case x=>k_is))
  (case aletters_of=>k_is)
  (case Fletters_of=>refine' L2.fun_mk ?z ?y ?x;(case z=>k_is);(case y=>k_is);(case x=>k_is))
  (case ais_shorter_by=>k_is)
  (case Fis_shorter_by=>refine' L2.fun_mk ?z ?y ?x;(case z=>k_is);(case y=>k_is);(case x=>k_is))
  (case aleast_turns_from=>k_is)
  (case Fleast_turns_from=>refine' L2.fun_mk ?z ?y ?x;(case z=>k_is);(case y=>k_is);(case x=>k_is))
  (case abegins_shortest=>k_is)
  (case Fbegins_shortest=>refine' L2.fun_mk ?z ?y ?x;(case z=>k_is);(case y=>k_is);(case x=>k_is))
  (case ashortest=>k_is)
  (case Fshortest=>refine' L2.fun_mk ?z ?y ?x;(case z=>k_is);(case y=>k_is);(case x=>k_is))
  (case aqueues_at=>k_is)
  (case Fqueues_at=>refine' L2.fun_mk ?z ?y ?x;(case z=>k_is);(case y=>k_is);(case x=>k_is))
  (case abags_at=>k_is)
  (case Fbags_at=>refine' L2.fun_mk ?z ?y ?x;(case z=>k_is);(case y=>k_is);(case x=>k_is))
  (case a_law_cell_at=>k_is)
  (case F_law_cell_at=>refine' L2.fun_mk ?z ?y ?x;(case z=>k_is);(case y=>k_is);(case x=>k_is))
  (case a_law_houses=>k_is)
  (case F_law_houses=>refine' L2.fun_mk ?z ?y ?x;(case z=>k_is);(case y=>k_is);(case x=>k_is))
  (case a_law_road=>k_is)
  (case F_law_road=>refine' L2.fun_mk ?z ?y ?x;(case z=>k_is);(case y=>k_is);(case x=>k_is))
  (case a_law_post=>k_is)
  (case F_law_post=>refine' L2.fun_mk ?z ?y ?x;(case z=>k_is);(case y=>k_is);(case x=>k_is))
  (case a_law_step=>k_is)
  (case F_law_step=>refine' L2.fun_mk ?z ?y ?x;(case z=>k_is);(case y=>k_is);(case x=>k_is))
  (case a_law_right=>k_is)
  (case F_law_right=>refine' L2.fun_mk ?z ?y ?x;(case z=>k_is);(case y=>k_is);(case x=>k_is))
  (case alaw=>k_is)
  (case Flaw=>refine' L2.fun_mk ?z ?y ?x;(case z=>k_is);(case y=>k_is);(case x=>k_is))
  (case aCRoadError=>k_is)
  (case lCRoadError=>k_is)
  (case aCNoLetter=>k_is)
  (case lCNoLetter=>k_is)
  (case aCNoHouse=>k_is)
  (case lCNoHouse=>k_is)
  (case aCNoRoad=>k_is)
  (case lCNoRoad=>k_is)
  (case aNoLetter_init=>k_is)
  (case iNoLetter_init=>k_is)
  (case FNoLetter_init=>refine' L2.fun_mk ?z ?y ?x;(case z=>k_is);(case y=>k_is);(case x=>k_is))
  (case xiRoadError=>k_exc)
  (case xiNoHouse=>k_exc)
  (case xiNoRoad=>k_exc)
  (case xsNoLetter_NoLetter=>decide+kernel)
  (case vMOST_HOUSES=>k_is)
  (case vMOST_ROADS=>k_is)
  (case vMOST_SIGNS=>k_is)
  (case vMOST_TURNS=>k_is)
  (case vMOST_ROOM=>k_is)
  (case vMOST_LETTERS=>k_is)
  (case vMOST_TURN=>k_is)
  (case vMOST_APART=>k_is)
  (case zlen=>k_is)
  (case zrange=>k_is)
  (case zisinstance=>k_is)
  (case zall=>k_is)
  (case zint=>k_is)
  (case zbool=>k_is)
  (case zstr=>k_is)
  (case zlist=>k_is)
  (case ztuple=>k_is)
  (case zset=>k_is)
  (case zValueError=>k_is)
  (case zenumerate=>k_is)
  (case zmax=>k_is)
  (case zmin=>k_is)
  (case zsum=>k_is)
  (case zany=>k_is)
  (case zdict=>k_is)
  (case zsorted=>k_is)
  (case zzip=>k_is)
  (case xkNoLetter=>decide+kernel)
  (case xdNoLetter=>decide+kernel)
  (case sxNoLetter=>k_is)
  (case obNoLetter=>k_is)
  (case hyNoLetter=>k_is)
  (case kpNoLetter=>k_is)
  (case gaNoLetter=>k_is)
  (case noNoLetter=>k_is)
  (case haNoLetter=>k_is)
  (case hnNoLetter=>k_is)
  (case htNoLetter=>k_is)
  (case hmNoLetter=>k_is)
  (case hbNoLetter=>k_is)
  (case rdRE=>k_is)
  (case fcRE=>k_is)
  (case sgRE=>k_is)
  (case hnum=>k_is)
  (case icRoadError=>k_is)
  (case tyRoadError=>k_is)
  (case icNoHouse=>k_is)
  (case tyNoHouse=>k_is)
  (case suNoLetter_ve=>k_is)
  (case suNoLetter_RoadError=>k_is)
  (case suNoLetter_NoHouse=>k_is)
  (case neNoLetter_NoHouse=>decide+kernel)
