import PyProof.Rows.All
import Wide.All
import OpenK.AllK
import Wide.FinOn
import Lean
import PyProof.EqAt
import PyProof.EqKinds
import PyProof.TupleCall
import PyProof.Draws
import PySem.Challenge.RW_askhouse_k19_whole_lessons
set_option Elab.async false
set_option linter.all false
set_option maxRecDepth 100000
namespace L2
open PySem PySem.Spec PyProof.Rows
abbrev Key:=Sum Int Str
def J7:Key→Value→Bool
 | .inl k,v=>Value.isInt k v
 | .inr x,v=>Value.isStrOf x v
def j1M (w:World):Key→Int
 | .inl k=>hashInt k
 | .inr x=>hashStr w x
theorem qb:∀ {k:Key} {v:Value},J7 k v=true→(∃ i t,k=Sum.inl i∧v=Value.int i t)∨(∃ x t,k=Sum.inr x∧v=Value.str x t)
 | .inl i,v,h=>by
  obtain ⟨t,e⟩:=Value.isInt_shape (k:=i) (v:=v) h;exact .inl ⟨i,t,rfl,e⟩
 | .inr x,v,h=>by
  obtain ⟨t,e⟩:=Value.isStrOf_shape (x:=x) (v:=v) h;exact .inr ⟨x,t,rfl,e⟩
theorem ZV (i:Int) (t:Tok):J7 (.inl i) (.int i t)=true:=by simp [J7,Value.isInt]
theorem Zd (x:Str) (t:Tok):J7 (.inr x) (.str x t)=true:=by simp [J7,Value.isStrOf]
theorem UO (a b:Int):decide ((Sum.inl a:Key)=Sum.inl b)=(a == b):=by
 by_cases e:a=b
 ·subst e;simp
 ·have h:¬ (Sum.inl a:Key)=Sum.inl b:=fun q=>e (Sum.inl.inj q);rw [decide_eq_false h];exact (beq_eq_false_iff_ne.mpr e).symm
theorem UP (a b:Str):decide ((Sum.inr a:Key)=Sum.inr b)=decide (a=b):=by
 by_cases e:a=b
 ·subst e;simp
 ·have h:¬ (Sum.inr a:Key)=Sum.inr b:=fun q=>e (Sum.inr.inj q);rw [decide_eq_false h,decide_eq_false e]
theorem UI (a:Int) (b:Str):decide ((Sum.inl a:Key)=Sum.inr b)=false:=decide_eq_false (fun q=>nomatch q)
theorem Uw (a:Str) (b:Int):decide ((Sum.inr a:Key)=Sum.inl b)=false:=decide_eq_false (fun q=>nomatch q)
def qU (prog:Program) (w:World):PySem.KeyKind prog w Key where
 is:=J7
 hash:=j1M w
 inj:=fun v a b ha hb=>by
  rcases qb ha with ⟨i,t,rfl,rfl⟩ | ⟨x,t,rfl,rfl⟩
  ·rcases qb hb with ⟨j,u,rfl,e⟩ | ⟨y,u,rfl,e⟩
   ·injection e with e1 _;rw [e1]
   ·exact nomatch e
  ·rcases qb hb with ⟨j,u,rfl,e⟩ | ⟨y,u,rfl,e⟩
   ·exact nomatch e
   ·injection e with e1 _;rw [e1]
 byValue:=fun k v h=>by
  rcases qb h with ⟨i,t,rfl,rfl⟩ | ⟨x,t,rfl,rfl⟩ <;> rfl
 pyHash:=fun hv h=>by
  rcases qb hv with ⟨i,t,rfl,rfl⟩ | ⟨x,t,rfl,rfl⟩
  ·exact wpAny_pyHash_int h
  ·exact wpAny_pyHash_str h
 eqBool:=fun hu hv h=>by
  rcases qb hu with ⟨i,t,rfl,rfl⟩ | ⟨x,t,rfl,rfl⟩
  ·rcases qb hv with ⟨j,u,rfl,rfl⟩ | ⟨y,u,rfl,rfl⟩
   ·rw [UO] at h;exact wpAny_eqBool_int h
   ·rw [UI] at h;exact SeqAt.EqAt.int_str i t y u _ _ _ _ h
  ·rcases qb hv with ⟨j,u,rfl,rfl⟩ | ⟨y,u,rfl,rfl⟩
   ·rw [Uw] at h;exact SeqAt.EqAt.str_int x t j u _ _ _ _ h
   ·rw [UP] at h;exact wpAny_eqBool_str h
 «strs»:=fun k x t v h=>by
  rcases qb h with ⟨i,u,rfl,e⟩ | ⟨y,u,rfl,e⟩
  ·exact nomatch e
  ·injection e with e1 _
   subst e1;cases v <;> rfl
theorem Qt (prog:Program) (w:World) (i:Int) (t:Tok):(qU prog w).is (.inl i) (.int i t)=true:=ZV i t
theorem Qp (prog:Program) (w:World) (x:Str) (t:Tok):(qU prog w).is (.inr x) (.str x t)=true:=Zd x t
end L2
namespace L2
open PySem PySem.Spec PyProof.Rows
inductive V where
 | non | bl (b:Bool) | int (i:Int) | str (x:Str) | byt (b:Array UInt8) | flt (b:UInt64) | ref (a:Addr) | ty (n:String)
 deriving DecidableEq
def jr:V→Value→Prop
 | .non,u=>u=Value.none
 | .bl b,u=>u=Value.bool b
 | .int i,u=>∃ t,u=Value.int i t
 | .str x,u=>∃ t,u=Value.str x t
 | .byt b,u=>∃ t,u=Value.bytes b t
 | .flt b,u=>∃ t,u=Value.float b t
 | .ref a,u=>u=Value.ref a
 | .ty n,u=>u=Value.type n
abbrev jw:List V→List Value→Prop:=Paired jr
theorem jw.length {xs:List V} {us:List Value} (r:jw xs us):xs.length=us.length:=Paired.length r
theorem jw.get:∀ {xs:List V} {us:List Value} {i:Nat} {x:V},jw xs us→xs[i]?=some x→∃ u,us[i]?=some u∧jr x u
 | _,_,_,_,.nil,e=>by simp at e
 | _,_,0,_,.cons r _,e=>by simp at e;subst e;exact ⟨_,rfl,r⟩
 | _,_,i+1,x,.cons _ t,e=>by
  obtain ⟨u,h1,h2⟩:=jw.get (i:=i) (x:=x) t (by simpa using e);exact ⟨u,by simpa using h1,h2⟩
theorem jw.set {x:V} {u:Value} (r:jr x u):∀ {xs:List V} {us:List Value} (i:Nat),jw xs us→jw (xs.set i x) (us.set i u)
 | _,_,_,.nil=>.nil
 | _,_,0,.cons _ t=>.cons r t
 | _,_,i+1,.cons q t=>.cons q (jw.set r i t)
theorem jw.append:∀ {xs ys:List V} {us ws:List Value},jw xs us→jw ys ws→jw (xs++ys) (us++ws)
 | _,_,_,_,.nil,s=>s
 | _,_,_,_,.cons r t,s=>.cons r (jw.append t s)
theorem jw.take:∀ {xs:List V} {us:List Value} (n:Nat),jw xs us→jw (xs.take n) (us.take n)
 | _,_,0,_=>.nil
 | _,_,_+1,.nil=>.nil
 | _,_,n+1,.cons r t=>.cons r (jw.take n t)
theorem jw.drop:∀ {xs:List V} {us:List Value} (n:Nat),jw xs us→jw (xs.drop n) (us.drop n)
 | _,_,0,r=>r
 | _,_,_+1,.nil=>.nil
 | _,_,n+1,.cons _ t=>jw.drop n t
theorem jw.none_of:∀ {xs:List V} {us:List Value} {i:Nat},jw xs us→xs[i]?=none→us[i]?=none:=fun {xs us i} r e=>by
 have h1:=r.length;have h2:xs.length≤i:=List.getElem?_eq_none_iff.mp e;exact List.getElem?_eq_none_iff.mpr (by omega)
def zF:Option V→Option Value→Prop
 | some v,some u=>jr v u
 | none,none=>True
 | _,_=>False
def KV {κ:Type}:List (κ×V)→List (κ×Value)→Prop:=Paired fun (p:κ×V) (q:κ×Value)=>p.1=q.1∧jr p.2 q.2
def kV:Key→V
 | .inl i=>.int i
 | .inr x=>.str x
inductive HO where
 | lst (xs:List V)
 | tup (xs:List V)
 | dK (kvs:List (Key×V)) | dT (kvs:List (List Key×V))
 | set (S:Int→Bool) (n:Nat)
 | ins (C dx:Addr) (fs:List (Str×V))
 | own (x:Addr)
 | xd (fs:List (Str×V))
 | met (f x:Addr)
 | rng (lo hi:Int)
 | frz (o:Obj) (u:HO)
 | tbl (ps:Array Value)
 | ext (φ:Heap→Prop)
abbrev Hp:=Addr→Option HO
def upd (H:Hp) (a:Addr) (o:HO):Hp:=fun b=>if b=a then some o else H b
theorem j1 {H:Hp} {a:Addr} {o:HO}:upd H a o a=some o:=by unfold upd;rw [if_pos rfl]
theorem j5 {H:Hp} {a b:Addr} {o:HO} (h:b≠a):upd H a o b=H b:=by unfold upd;rw [if_neg h]
theorem yr {H:Hp} {a:Addr} {o u:HO}:upd (upd H a o) a u=upd H a u:=by
 funext b;unfold upd;split <;> rfl
theorem vR {H:Hp} {a b:Addr} {o u:HO} (h:H a=some o) (h':H b=some u) (d:o≠u):a≠b:=by
 intro e;subst e;rw [h] at h';exact d (Option.some.inj h')
theorem jA {H:Hp} {a b:Addr} {o:HO} (h:H a=some o) (h':H b=none):a≠b:=by
 intro e;subst e;rw [h] at h';cases h'
section
variable (P:Program) (w:World)
def qM (H:Hp) (h:Heap) (a:Addr):HO→Prop
 | .lst xs=>xs.length≤sizeLine∧∃ (its:List Value) (n:Nat),jw xs its∧h.get? a=some { cls:=.type "list",data:=.seq its.toArray n }
 | .tup xs=>xs.length≤sizeLine∧∃ its:List Value,jw xs its∧IsTup h a its.toArray
 | .dK kvs=>kvs.length≤sizeLine∧(a == sysModules)=false∧∃ vs,KV kvs vs∧h.DictOf (qU P w) a vs
 | .dT kvs=>kvs.length≤sizeLine∧(a == sysModules)=false∧∃ xs:List (List Key×Addr×Value),
   Paired (fun (p:List Key×V) (q:List Key×Addr×Value)=>p.1=q.1∧H q.2.1=some (.tup (p.1.map kV))∧jr p.2 q.2.2) kvs xs ∧
   ∃ o es ep,h.get? a=some o∧o.ExactDict∧o.data=.dict es ep∧es.toList=xs.map (entryOfKey (tupleKind (qU P w)))∧(xs.map (·.1)).Nodup
 | .set S n=>h.SetOf (intKind P w) a S n
 | .ins C dx fs=>H dx=some (.own a)∧fs.length≤1000∧dx≠a∧h.get? a=some (PySem.W.instObj C dx) ∧
   ∃ mA,h.Ns1 dx mA∧(∀ f,zF (fs.lookup f) (mA f))∧PySem.Within mA (fs.map (·.1))
 | .own _=>∃ o,h.get? a=some o
 | .xd fs=>∃ mA,h.Ns1 a mA∧∀ f,zF (fs.lookup f) (mA f)
 | .rng lo hi=>∃ t u v,h.get? a=some { cls:=.type "range",data:=.fields #[.int lo t,.int hi u,.int 1 v] }
 | .frz o u=>h.get? a=some o∧qM H h a u
 | .tbl ps=>h.get? a=some { cls:=.none,data:=.fields ps }
 | .met f x=>h.get? a=some (PySem.W.methodObj (.ref f) (.ref x))
 | .ext φ=>φ h∧(∃ o,h.get? a=some o)∧∀ h1 h2:Heap,φ h1→(∀ o,h1.get? a=some o→h2.get? a=some o)→φ h2
def HOk (H:Hp) (h:Heap):Prop:=∀ a o,H a=some o→qM P w H h a o
end
section
variable {P:Program} {w:World} {H H':Hp} {h h':Heap} {a:Addr} {o:HO}
theorem qM.lt (x:qM P w H h a o):a < h.objs.size:=by
 cases o with
 | lst xs=>obtain ⟨_,_,_,_,e⟩:=x;exact Heap.lt_size e
 | tup xs=>obtain ⟨_,_,_,p⟩:=x;exact p.lt
 | dK kvs=>obtain ⟨_,_,_,_,o,_,_,e,_⟩:=x;exact Heap.lt_size e
 | dT kvs=>obtain ⟨_,_,_,_,o,_,_,e,_⟩:=x;exact Heap.lt_size e
 | set S n=>obtain ⟨o,_,_,_,e,_⟩:=x;exact Heap.lt_size e
 | ins C dx fs=>obtain ⟨_,_,_,e,_⟩:=x;exact Heap.lt_size e
 | own y=>obtain ⟨_,e⟩:=x;exact Heap.lt_size e
 | xd fs=>obtain ⟨_,⟨_,_,_,e,_⟩,_⟩:=x;exact Heap.lt_size e
 | rng lo hi=>obtain ⟨_,_,_,e⟩:=x;exact Heap.lt_size e
 | frz ob u=>obtain ⟨e,_⟩:=x;exact Heap.lt_size e
 | tbl ps=>exact Heap.lt_size (show h.get? a=some _ from x)
 | met f y=>exact Heap.lt_size (show h.get? a=some _ from x)
 | ext φ=>obtain ⟨_,⟨_,e⟩,_⟩:=x;exact Heap.lt_size e
theorem Paired.mapP {α β:Type} {F G:α→β→Prop}:∀ {l₁:List α} {l₂:List β},Paired F l₁ l₂→(∀ a b,F a b→G a b)→Paired G l₁ l₂
 | _,_,.nil,_=>.nil
 | _,_,.cons r t,f=>.cons (f _ _ r) (Paired.mapP t f)
theorem qM.stay (x:qM P w H h a o) (k:∀ b u,(b=a∨H b=some (.own a))→h.get? b=some u→h'.get? b=some u)
  (ho:∀ b,H b=some (.own a)→H' b=some (.own a)) (ht:∀ b xs,H b=some (.tup xs)→H' b=some (.tup xs)):qM P w H' h' a o:=by
 induction o with
 | lst xs=>obtain ⟨z,its,n,r,e⟩:=x;exact ⟨z,its,n,r,k _ _ (.inl rfl) e⟩
 | tup xs=>obtain ⟨z,its,r,ob,e,c⟩:=x;exact ⟨z,its,r,ob,k _ _ (.inl rfl) e,c⟩
 | dK kvs=>obtain ⟨z,y,vs,r,ob,es,ep,e,c⟩:=x;exact ⟨z,y,vs,r,ob,es,ep,k _ _ (.inl rfl) e,c⟩
 | dT kvs =>
  obtain ⟨z,y,xs,r,ob,es,ep,e,c⟩:=x;exact ⟨z,y,xs,Paired.mapP r fun p q z=>⟨z.1,ht _ _ z.2.1,z.2.2⟩,ob,es,ep,k _ _ (.inl rfl) e,c⟩
 | set S n=>obtain ⟨ob,es,ep,t,e,c⟩:=x;exact ⟨ob,es,ep,t,k _ _ (.inl rfl) e,c⟩
 | ins C dx fs =>
  obtain ⟨d,z,ne,e,mA,⟨od,es,ep,e2,c⟩,r⟩:=x;exact ⟨ho _ d,z,ne,k _ _ (.inl rfl) e,mA,⟨od,es,ep,k _ _ (.inr d) e2,c⟩,r⟩
 | own y=>obtain ⟨ob,e⟩:=x;exact ⟨ob,k _ _ (.inl rfl) e⟩
 | xd fs=>obtain ⟨mA,⟨od,es,ep,e,c⟩,r⟩:=x;exact ⟨mA,⟨od,es,ep,k _ _ (.inl rfl) e,c⟩,r⟩
 | rng lo hi=>obtain ⟨t,u,v,e⟩:=x;exact ⟨t,u,v,k _ _ (.inl rfl) e⟩
 | frz ob u ih=>obtain ⟨e,q⟩:=x;exact ⟨k _ _ (.inl rfl) e,ih q⟩
 | tbl ps =>
  have e:h.get? a=some { cls:=.none,data:=.fields ps }:=x;show h'.get? a=some { cls:=.none,data:=.fields ps };exact k a _ (.inl rfl) e
 | met f y =>
  have e:h.get? a=some (PySem.W.methodObj (.ref f) (.ref y)):=x;show h'.get? a=some (PySem.W.methodObj (.ref f) (.ref y));exact k a _ (.inl rfl) e
 | ext φ=>obtain ⟨p,⟨o,e⟩,st⟩:=x;exact ⟨st _ _ p fun o q=>k _ _ (.inl rfl) q,⟨o,k _ _ (.inl rfl) e⟩,st⟩
theorem HOk.lt (x:HOk P w H h) (e:H a=some o):a < h.objs.size:=(x a o e).lt
theorem HOk.fresh (x:HOk P w H h) (e:h.objs.size≤a):H a=none:=by
 cases q:H a with
 | none=>rfl
 | some u=>exact absurd (Nat.lt_of_lt_of_le (x.lt q) e) (Nat.lt_irrefl _)
theorem HOk.kept (x:HOk P w H h) (k:∀ b u,h.get? b=some u→h'.get? b=some u):HOk P w H h':=fun a o e =>
 (x a o e).stay (fun b u _ q=>k b u q) (fun _ q=>q) fun _ _ q=>q
theorem HOk.laid (x:HOk P w H h) (k:∀ b u,h.get? b=some u→h'.get? b=some u) (hp:h.objs.size≤a) (new:qM P w (upd H a o) h' a o):HOk P w (upd H a o) h':=fun b u e=>by
 have hn:=x.fresh hp
 by_cases hb:b=a
 ·subst hb;rw [j1] at e;cases e;exact new
 ·rw [j5 hb] at e;exact (x b u e).stay (fun c v _ q=>k c v q) (fun c q=>by rw [j5 (jA q hn)];exact q) fun c xs q=>by rw [j5 (jA q hn)];exact q
end
def Rd (H:Hp) (a:Addr) (u:HO):Prop:=H a=some u∨∃ o,H a=some (.frz o u)
theorem Rd.ok {P:Program} {w:World} {H:Hp} {h:Heap} {a:Addr} {u:HO} (r:Rd H a u) (x:HOk P w H h):qM P w H h a u:=by
 rcases r with r | ⟨o,r⟩
 ·exact x a u r
 ·obtain ⟨_,q⟩:=x a _ r;exact q
def Mut:Option HO→Prop
 | some (.lst _)=>True
 | some (.dK _)=>True
 | some (.dT _)=>True
 | some (.set _ _)=>True
 | some (.ins _ _ _)=>True
 | some (.ext _)=>True
 | _=>False
section
variable {P:Program} {w:World} {H:Hp} {h h':Heap} {x e:Addr} {o':HO}
theorem HOk.write (ok:HOk P w H h) (mu:Mut (H x)) (he:e=x∨H e=some (.own x)) (k:∀ b u,b≠e→h.get? b=some u→h'.get? b=some u) (heo:∃ u,h'.get? e=some u)
  (new:qM P w (upd H x o') h' x o'):HOk P w (upd H x o') h':=fun b u q=>by
 have nown:∀ c y,H c=some (.own y)→c≠x:=fun c y r z=>by subst z;rw [r] at mu;exact mu
 have ntup:∀ c xs,H c=some (.tup xs)→c≠x:=fun c xs r z=>by subst z;rw [r] at mu;exact mu
 by_cases hb:b=x
 ·subst hb;rw [j1] at q;cases q;exact new
 ·rw [j5 hb] at q
  by_cases hbe:b=e
  ·have q':H b=some (.own x):=by
    rcases he with z | z
    ·exact absurd (hbe.trans z) hb
    ·rw [hbe];exact z
   rw [q] at q';cases q';obtain ⟨v,hv⟩:=heo;exact ⟨v,by rw [hbe];exact hv⟩
  ·refine (ok b u q).stay (fun c v hc r=>k c v ?_ r) (fun c r=>by rw [j5 (nown c b r)];exact r) fun c xs r=>by rw [j5 (ntup c xs r)];exact r
   rcases hc with rfl | hc
   ·exact hbe
   ·rintro rfl
    rcases he with z | z
    ·exact nown c b hc z
    ·rw [hc] at z;cases z;exact hb rfl
end
structure Un (fs ex:List Addr) (H H':Hp) (h h':Heap):Prop where
 keep:∀ b o,h.get? b=some o→H b=none→b∉fs→b∉ex→h'.get? b=some o
 slot:∀ b o,h.get? b=some o→H b=none→b∈fs→b∉ex→∃ sl,h'.get? b=some { o with slots:=sl }
 free:∀ b o,h.get? b=some o→H b=none→b∉ex→H' b=none
 there:∀ b o,h.get? b=some o→b∉ex→∃ o',h'.get? b=some o'
 tups:∀ b xs,H b=some (.tup xs)→H' b=some (.tup xs)
 frzs:∀ b o u,H b=some (.frz o u)→H' b=some (.frz o u)
 tbls:∀ b ps,H b=some (.tbl ps)→∃ more,H' b=some (.tbl (ps++more))
section
variable {fs fs' ex ex':List Addr} {H H1 H2:Hp} {h h1 h2 h':Heap} {a x e:Addr} {o:HO}
theorem Un.any (u:Un fs ex H H1 h h1) {b:Addr} {ob:Obj} (q:h.get? b=some ob) (n:H b=none) (hx:b∉ex):∃ sl,h1.get? b=some { ob with slots:=sl }:=by
 by_cases hb:b∈fs
 ·exact u.slot b ob q n hb hx
 ·exact ⟨ob.slots,u.keep b ob q n hb hx⟩
theorem Un.kept (k:∀ b u,h.get? b=some u→h'.get? b=some u):Un fs ex H H h h' :=
 ⟨fun b ob q _ _ _=>k b ob q,fun b ob q _ _ _=>⟨ob.slots,k b ob q⟩,fun _ _ _ n _=>n,fun b ob q _=>⟨ob,k b ob q⟩,fun _ _ q=>q,fun _ _ _ q=>q,fun _ ps q=>⟨#[],by rw [q];simp⟩⟩
theorem Un.refl:Un fs ex H H h h:=Un.kept fun _ _ q=>q
theorem Un.laid (k:∀ b u,h.get? b=some u→h'.get? b=some u) (hp:h.objs.size≤a) (hn:H a=none):Un fs ex H (upd H a o) h h' where
 keep:=fun b u q _ _ _=>k b u q
 slot:=fun b u q _ _ _=>⟨u.slots,k b u q⟩
 free:=fun b u q n _=>by rw [j5 (Nat.ne_of_lt (Nat.lt_of_lt_of_le (Heap.lt_size q) hp))];exact n
 there:=fun b u q _=>⟨u,k b u q⟩
 tups:=fun b xs q=>by rw [j5 (jA q hn)];exact q
 frzs:=fun b u xs q=>by rw [j5 (jA q hn)];exact q
 tbls:=fun b ps q=>⟨#[],by rw [j5 (jA q hn),q];simp⟩
theorem Un.write (mu:Mut (H x)) (he:e=x∨H e=some (.own x)) (k:∀ b u,b≠e→h.get? b=some u→h'.get? b=some u) (heo:∃ u,h'.get? e=some u):Un fs ex H (upd H x o) h h':=by
 have hx:∀ b,H b=none→b≠x:=fun b n z=>by subst z;rw [n] at mu;exact mu
 have hb:∀ b,H b=none→b≠e:=fun b n z=>by
  subst z;rcases he with r | r
  ·exact hx b n r
  ·rw [n] at r;cases r
 have hm:∀ b u,H b=some u→¬ Mut (some u)→b≠x:=fun b u q nm z=>by subst z;rw [q] at mu;exact nm mu
 refine ⟨fun b u q n _ _=>k b u (hb b n) q,fun b u q n _ _=>⟨u.slots,k b u (hb b n) q⟩,fun b u q n _=>by rw [j5 (hx b n)];exact n,fun b u q _=>?_,
  fun b xs q=>by rw [j5 (hm b _ q fun z=>z)];exact q,fun b u xs q=>by rw [j5 (hm b _ q fun z=>z)];exact q,fun b ps q=>⟨#[],by rw [j5 (hm b _ q fun z=>z),q];simp⟩⟩
 by_cases hbe:b=e
 ·subst hbe;exact heo
 ·exact ⟨u,k b u hbe q⟩
end
def trk (h:Heap) (H:Hp):List Addr:=(List.range h.objs.size).filter fun a=>(H a).isSome
def Jo (h:Heap) (H:Hp):Heap:=PySem.W.hideAll h (trk h H)
theorem ZS (h:Heap) (H:Hp):(Jo h H).objs.size=h.objs.size:=PySem.W.hideAll_size _ _
theorem VO {h:Heap} {H:Hp} {b:Addr} {o:Obj} (e:h.get? b=some o) (n:H b=none):(Jo h H).get? b=some o :=
 PySem.W.hideAll_get _ e fun hm=>by
  have q:(H b).isSome=true:=(List.mem_filter.mp hm).2;rw [n] at q;simp at q
theorem X2 {h:Heap} {H:Hp} {b:Addr} {o:Obj} (e:(Jo h H).get? b=some o):h.get? b=some o∧H b=none:=by
 have e':h.get? b=some o:=PySem.W.of_hideAll (trk h H) e;refine ⟨e',?_⟩;cases q:H b with
 | none=>rfl
 | some x =>
  have hm:b∈trk h H:=List.mem_filter.mpr ⟨List.mem_range.mpr (Heap.lt_size e'),by simp [q]⟩;have z:(Jo h H).get? b=none:=PySem.W.hideAll_none (trk h H) hm;rw [z] at e;cases e
end L2
namespace L2
open PySem PySem.Spec PyProof.Rows
structure Mod (K:PySem.W.Frag) (mg:Str→Option Value) (base:Heap):Prop where
 kin:K.In base
 glob:base.Ns mainGlobals mg
 blt:∃ mb,base.Ns builtinsNs mb∧∀ x:Str,x≠"__name__"→mb x=bootBuiltins x
 nolimit:base.NoLimit
structure Cx where
 prog:Program
 w:World
 K:PySem.W.Frag
 mg:Str→Option Value
 base:Heap
 A:Around
 N:List Str
 s₀:Shared
 H₀:Hp
 env:Env
 outer:List Env
 stack:List Env
 ex:List Addr
 fn:Str→Bool
 calm:Bool
 pn:List (Addr×Obj)
 xe:Value→Shared→Prop
def frs (l:List Env):List Addr:=l.filterMap (·.frame)
abbrev Cx.fs (X:Cx):List Addr:=frs X.outer
def Vis (sc:Scope) (x:Str):Prop:=sc.names.lookup x=some .local∨sc.names.lookup x=some .cell∨sc.names.lookup x=some .free
def Loc (sc:Scope) (x:Str):Prop:=sc.names.lookup x=some .local∨sc.names.lookup x=some .cell
def Look (env:Env) (h:Heap) (m:Str→Option Value) (x:Str) (u:Value):Prop :=
 (env.kindOf x=some .local∧m x=some u)∨((env.kindOf x=some .cell∨env.kindOf x=some .free)∧∃ c,env.cells.lookup x=some c∧h.IsCell c (some u))
structure Cx.Ok (X:Cx):Prop where
 mod:Mod X.K X.mg X.base
 kind:X.env.scope.kind=.function
 glob:X.env.globals=mainGlobals
 blt:X.env.builtins=builtinsNs
 above:X.s₀.heap.objs.size≤X.env.locals
 inj:∀ x y c,X.env.cells.lookup x=some c→X.env.cells.lookup y=some c→x=y
 has:∀ x,(X.env.kindOf x=some .cell∨X.env.kindOf x=some .free)→∃ c,X.env.cells.lookup x=some c
 cab:∀ x c,X.fn x=true→X.env.cells.lookup x=some c→X.s₀.heap.objs.size≤c
 hd:X.calm=true→X.A.handled=none
 frames:X.A.frames=some X.stack
 stk:X.stack=X.outer∨(X.stack=X.env :: X.outer∧X.env.frame=some X.env.locals)
 exf:∀ b∈X.ex,b≠X.env.locals∧∀ x c,X.env.cells.lookup x=some c→c≠b
 bs:∀ b o,X.base.get? b=some o→X.s₀.heap.get? b=some o∧X.H₀ b=none
 bsz:X.base.objs.size≤X.s₀.heap.objs.size
 noex:∀ b o,X.base.get? b=some o→b∉X.ex
 exfs:∀ b∈X.ex,b∉X.fs
 funs:X.s₀.heap.FunFrames X.base X.outer
 frf:∀ b∈X.fs,X.H₀ b=none
structure Inv (X:Cx) (pins:List (Addr×Obj)) (σ:List (Option V)) (H:Hp) (s:Shared):Prop where
 ok:X.Ok
 os:s.os=X.s₀.os
 bare:AllBare s.gens
 base:Un X.fs X.ex X.H₀ H X.s₀.heap s.heap
 loc:∃ m,s.heap.Ns X.env.locals m∧∀ (i:Nat) (x:Str) (v:V),X.N[i]?=some x→σ[i]?=some (some v)→Vis X.env.scope x→∃ u,jr v u∧Look X.env s.heap m x u
 cell:∀ x c,X.env.cells.lookup x=some c→∃ v,s.heap.IsCell c v
 free:H X.env.locals=none
 freeC:∀ x c,X.env.cells.lookup x=some c→H c=none
 pin:∀ p∈X.pn++pins,s.heap.get? p.1=some p.2∧H p.1=none∧p.1≠X.env.locals∧p.1∉X.fs∧∀ v,p.2.data≠.cell v
 hok:HOk X.prog X.w H s.heap
 len:σ.length=X.N.length
section
variable {X:Cx} {pins:List (Addr×Obj)} {σ:List (Option V)} {H H':Hp} {s:Shared} {h':Heap}
theorem Cx.Ok.nofr (ok:X.Ok) {b:Addr} {o:Obj} (e:X.base.get? b=some o):b∉X.fs:=fun hb=>by
 have:=(ok.funs.mem hb).1;rw [e] at this;cases this
theorem Inv.bs (I:Inv X pins σ H s):∀ b o,X.base.get? b=some o→s.heap.get? b=some o∧H b=none:=fun b o e =>
 ⟨I.base.keep b o (I.ok.bs b o e).1 (I.ok.bs b o e).2 (I.ok.nofr e) (I.ok.noex b o e),I.base.free b o (I.ok.bs b o e).1 (I.ok.bs b o e).2 (I.ok.noex b o e)⟩
theorem Inv.bk (I:Inv X pins σ H s):∀ b o,X.base.get? b=some o→s.heap.get? b=some o:=fun b o e=>(I.bs b o e).1
theorem Inv.mod (I:Inv X pins σ H s):Mod X.K X.mg X.base:=I.ok.mod
theorem Inv.kIn (I:Inv X pins σ H s):X.K.In s.heap:=I.ok.mod.kin.keeps I.bk
theorem Inv.lt (I:Inv X pins σ H s):X.env.locals < s.heap.objs.size:=let ⟨_,hn,_⟩:=I.loc;hn.lt
theorem Inv.sz (I:Inv X pins σ H s):X.s₀.heap.objs.size≤s.heap.objs.size:=Nat.le_trans I.ok.above (Nat.le_of_lt I.lt)
theorem Inv.nofs (I:Inv X pins σ H s) {a:Addr} (h:s.heap.objs.size≤a):a∉X.fs:=fun hb=>by
 obtain ⟨_,o,ho,_⟩:=I.ok.funs.mem hb;exact absurd (Nat.lt_of_lt_of_le (Heap.lt_size ho) (Nat.le_trans I.sz h)) (Nat.lt_irrefl _)
theorem Inv.cne (I:Inv X pins σ H s):∀ x c,X.env.cells.lookup x=some c→c≠X.env.locals:=fun x c e z=>by
 obtain ⟨v,o,ho,hd⟩:=I.cell x c e;obtain ⟨m,⟨o',es,ep,ho',hd',_⟩,_⟩:=I.loc;rw [z,ho'] at ho;cases ho;rw [hd'] at hd;cases hd
theorem Inv.funs (I:Inv X pins σ H s):s.heap.FunFrames X.base X.outer:=by
 have all:∀ (l:List Env),(∀ b∈frs l,b∈X.fs)→X.s₀.heap.FunFrames X.base l→s.heap.FunFrames X.base l:=by
  intro l
  induction l with
  | nil=>intro _ _;trivial
  | cons env r ih =>
   intro hs hl;obtain ⟨hk,⟨L,o,hf,hn,ho,hd⟩,hr⟩:=hl;have hL:L∈X.fs:=hs L (by unfold frs;rw [List.filterMap_cons,hf];exact List.mem_cons_self);obtain ⟨sl,e⟩:=I.base.slot L o ho (I.ok.frf L hL) hL fun z=>I.ok.exfs L z hL;exact ⟨hk,⟨L,_,hf,hn,e,hd⟩,ih (fun b hb=>hs b (by unfold frs;rw [List.filterMap_cons,hf];exact List.mem_cons_of_mem _ hb)) hr⟩
 exact all X.outer (fun _ hb=>hb) I.ok.funs
theorem Inv.stack (I:Inv X pins σ H s):s.heap.FunFrames X.base X.stack:=by
 rcases I.ok.stk with e | ⟨e,hf⟩
 ·rw [e];exact I.funs
 ·rw [e];obtain ⟨m,hn,_⟩:=I.loc;refine .cons (by rw [I.ok.kind];decide) hf hn ?_ I.funs;exact Heap.get?_none_of_le (Nat.le_trans I.ok.bsz I.ok.above)
theorem Inv.stkSub (I:Inv X pins σ H s):∀ b∈frs X.stack,b∈X.env.locals :: X.fs:=fun b hb=>by
 rcases I.ok.stk with e | ⟨e,hf⟩
 ·rw [e] at hb;exact List.mem_cons_of_mem _ hb
 ·rw [e] at hb;unfold frs at hb;rw [List.filterMap_cons,hf] at hb;exact hb
theorem Inv.stkFree (I:Inv X pins σ H s):∀ b∈frs X.stack,H b=none:=fun b hb=>by
 rcases List.mem_cons.mp (I.stkSub b hb) with e | hb
 ·rw [e];exact I.free
 ·obtain ⟨_,o,ho,_⟩:=I.ok.funs.mem hb;exact I.base.free b o ho (I.ok.frf b hb) fun z=>I.ok.exfs b z hb
theorem Inv.step {g':Array GenState} {t':Nat} {d':Drawn} {ch:List Addr} (I:Inv X pins σ H s)
  (hch:∀ b∈ch,(b∈X.ex∨X.s₀.heap.objs.size≤b)∧b≠X.env.locals∧(∀ x c,X.env.cells.lookup x=some c→c≠b)∧∀ p∈X.pn++pins,p.1≠b)
  (keep:∀ b o,b≠X.env.locals→b∉X.fs→b∉ch→s.heap.get? b=some o→H b=none→h'.get? b=some o)
  (slot:∀ b o,b≠X.env.locals→b∈X.fs→b∉ch→s.heap.get? b=some o→H b=none→∃ sl,h'.get? b=some { o with slots:=sl }) (free:∀ b o,b∉ch→s.heap.get? b=some o→H b=none→H' b=none)
  (there:∀ b o,b∉ch→s.heap.get? b=some o→∃ o',h'.get? b=some o')
  (tups:∀ b xs,H b=some (.tup xs)→H' b=some (.tup xs)) (frzs:∀ b o u,H b=some (.frz o u)→H' b=some (.frz o u)) (tbls:∀ b ps,H b=some (.tbl ps)→∃ more,H' b=some (.tbl (ps++more)))
  (ns:∀ m,s.heap.Ns X.env.locals m→h'.Ns X.env.locals m) (hok:HOk X.prog X.w H' h') (hg:AllBare g') :
  Inv X pins σ H' { s with heap:=h',gens:=g',drawn:=d',toks:=t' }:=by
 have neL:∀ b o,X.s₀.heap.get? b=some o→b≠X.env.locals:=fun b o e=>Nat.ne_of_lt (Nat.lt_of_lt_of_le (Heap.lt_size e) I.ok.above);have neC:∀ b o,X.s₀.heap.get? b=some o→b∉X.ex→b∉ch:=fun b o e hx hb=>by
  rcases (hch b hb).1 with z | z
  ·exact hx z
  ·exact absurd (Nat.lt_of_lt_of_le (Heap.lt_size e) z) (Nat.lt_irrefl _)
 have cellK:∀ x c,X.env.cells.lookup x=some c→∀ v,s.heap.IsCell c v→h'.IsCell c v:=fun x c e v ⟨o,ho,hd⟩=>by
  have nch:c∉ch:=fun z=>(hch c z).2.2.1 x c e rfl
  by_cases hc:c∈X.fs
  ·obtain ⟨sl,q⟩:=slot c o (I.cne x c e) hc nch ho (I.freeC x c e);exact ⟨_,q,hd⟩
  ·exact ⟨o,keep c o (I.cne x c e) hc nch ho (I.freeC x c e),hd⟩
 refine ⟨I.ok,I.os,hg,⟨fun b o e n hb hx=>?_,fun b o e n hb hx=>?_,fun b o e n hx=>?_,fun b o e hx=>?_,fun b xs e=>tups b xs (I.base.tups b xs e),fun b o xs e=>frzs b o xs (I.base.frzs b o xs e),fun b ps e=>?_⟩,?_,fun x c e=>?_,?_,fun x c e=>?_,fun p hp=>?_,hok,I.len⟩
 ·exact keep b o (neL b o e) hb (neC b o e hx) (I.base.keep b o e n hb hx) (I.base.free b o e n hx)
 ·obtain ⟨sl,e1⟩:=I.base.slot b o e n hb hx;obtain ⟨sl',e2⟩:=slot b _ (neL b o e) hb (neC b o e hx) e1 (I.base.free b o e n hx);exact ⟨sl',e2⟩
 ·obtain ⟨o',e1⟩:=I.base.there b o e hx;exact free b o' (neC b o e hx) e1 (I.base.free b o e n hx)
 ·obtain ⟨o',e1⟩:=I.base.there b o e hx;exact there b o' (neC b o e hx) e1
 ·obtain ⟨m1,e1⟩:=I.base.tbls b ps e;obtain ⟨m2,e2⟩:=tbls b _ e1;exact ⟨m1++m2,by rw [e2,Array.append_assoc]⟩
 ·obtain ⟨m,hn,hl⟩:=I.loc;refine ⟨m,ns m hn,fun i x v e1 e2 e3=>?_⟩;obtain ⟨u,r,l⟩:=hl i x v e1 e2 e3;refine ⟨u,r,?_⟩;rcases l with l | ⟨k,c,e,z⟩
  ·exact .inl l
  ·exact .inr ⟨k,c,e,cellK x c e _ z⟩
 ·obtain ⟨v,z⟩:=I.cell x c e;exact ⟨v,cellK x c e v z⟩
 ·obtain ⟨m,⟨o,_,_,ho,_⟩,_⟩:=I.loc;exact free _ o (fun z=>(hch _ z).2.1 rfl) ho I.free
 ·obtain ⟨v,o,ho,hd⟩:=I.cell x c e;exact free c o (fun z=>(hch c z).2.2.1 x c e rfl) ho (I.freeC x c e)
 ·obtain ⟨e,n,ne,nf,d⟩:=I.pin p hp;have nch:p.1∉ch:=fun z=>(hch p.1 z).2.2.2 p hp rfl;exact ⟨keep p.1 p.2 ne nf nch e n,free p.1 p.2 nch e n,ne,nf,d⟩
theorem Inv.un {t':Nat} (I:Inv X pins σ H s) (u:Un X.fs [] H H' s.heap h') (hok:HOk X.prog X.w H' h'):Inv X pins σ H' { s with heap:=h',toks:=t' }:=by
 obtain ⟨m,⟨o,es,ep,ho,r⟩,_⟩:=id I.loc;obtain ⟨sl,hL⟩:=u.any ho I.free (by simp);exact I.step (g':=s.gens) (d':=s.drawn) (ch:=[]) (fun _ z=>nomatch z) (fun b o _ hb _ e n=>u.keep b o e n hb (by simp)) (fun b o _ hb _ e n=>u.slot b o e n hb (by simp)) (fun b o _ e n=>u.free b o e n (by simp)) (fun b o _ e=>u.there b o e (by simp)) u.tups u.frzs u.tbls (fun m' hm=>by
  obtain ⟨o',es',ep',ho',r'⟩:=hm;rw [ho] at ho';cases ho';exact ⟨_,es',ep',hL,r'⟩) hok I.bare
theorem Inv.call {g':Array GenState} {t':Nat} {d':Drawn} {ch:List Addr} (I:Inv X pins σ H s) (u:Un (frs X.stack) ch H H' s.heap h') (hok:HOk X.prog X.w H' h') (hg:AllBare g')
  (hch:∀ b∈ch,(b∈X.ex∨X.s₀.heap.objs.size≤b)∧b≠X.env.locals∧(∀ x c,X.env.cells.lookup x=some c→c≠b)∧∀ p∈X.pn++pins,p.1≠b) :
  Inv X pins σ H' { s with heap:=h',gens:=g',drawn:=d',toks:=t' }:=by
 obtain ⟨m,⟨o,es,ep,ho,r⟩,_⟩:=id I.loc;obtain ⟨sl,hL⟩:=u.any ho I.free fun z=>(hch _ z).2.1 rfl;exact I.step (ch:=ch) hch (fun b o hL hb hc e n=>u.keep b o e n (fun z=>(List.mem_cons.mp (I.stkSub b z)).elim hL hb) hc) (fun b o _ _ hc e n=>u.any e n hc) (fun b o hc e n=>u.free b o e n hc) (fun b o hc e=>u.there b o e hc) u.tups u.frzs u.tbls (fun m' hm=>by
  obtain ⟨o',es',ep',ho',r'⟩:=hm;rw [ho] at ho';cases ho';exact ⟨_,es',ep',hL,r'⟩) hok hg
theorem Inv.turned {t':Nat} {it:Addr} (I:Inv X pins σ H s) (k:∀ b o,b≠it→s.heap.get? b=some o→h'.get? b=some o) (hn:H it=none) (hL:it≠X.env.locals)
  (h1:it∈X.ex∨X.s₀.heap.objs.size≤it) (h2:∀ x c,X.env.cells.lookup x=some c→c≠it) (h3:∀ p∈X.pn++pins,p.1≠it):Inv X pins σ H { s with heap:=h',toks:=t' }:=by
 have nit:∀ b u,H b=some u→b≠it:=fun b u e z=>by rw [z,hn] at e;cases e
 refine I.step (g':=s.gens) (d':=s.drawn) (ch:=[it]) (fun b hb=>?_) (fun b o _ _ hc e _=>k b o (fun z=>hc (by simp [z])) e) (fun b o _ _ hc e _=>⟨o.slots,k b o (fun z=>hc (by simp [z])) e⟩) (fun _ _ _ _ n=>n)
  (fun b o hc e=>⟨o,k b o (fun z=>hc (by simp [z])) e⟩) (fun _ _ e=>e) (fun _ _ _ e=>e) (fun b ps e=>⟨#[],by rw [e];simp⟩) (fun m hm=>?_) (fun b u e=>?_) I.bare
 ·have e:b=it:=by simpa using hb
  subst e;exact ⟨h1,hL,h2,h3⟩
 ·obtain ⟨o,es,ep,ho,r⟩:=hm;exact ⟨o,es,ep,k _ o (Ne.symm hL) ho,r⟩
 ·refine (I.hok b u e).stay (fun c v hc q=>k c v ?_ q) (fun _ q=>q) fun _ _ q=>q;rcases hc with z | z
  ·rw [z];exact nit b u e
  ·exact nit c _ z
theorem Inv.tok (I:Inv X pins σ H s) (t:Nat):Inv X pins σ H { s with toks:=t }:=I.un (h':=s.heap) (t':=t) Un.refl I.hok
theorem Inv.kept {t':Nat} (I:Inv X pins σ H s) (k:∀ b u,s.heap.get? b=some u→h'.get? b=some u):Inv X pins σ H { s with heap:=h',toks:=t' }:=I.un (Un.kept k) (I.hok.kept k)
theorem Inv.laid {a:Addr} {o:HO} {t':Nat} (I:Inv X pins σ H s) (k:∀ b u,s.heap.get? b=some u→h'.get? b=some u) (hp:s.heap.objs.size≤a) (new:qM X.prog X.w (upd H a o) h' a o) :
  Inv X pins σ (upd H a o) { s with heap:=h',toks:=t' }:=I.un (Un.laid k hp (I.hok.fresh hp)) (I.hok.laid k hp new)
theorem Inv.write {x e:Addr} {o:HO} {t':Nat} (I:Inv X pins σ H s) (mu:Mut (H x)) (he:e=x∨H e=some (.own x)) (k:∀ b u,b≠e→s.heap.get? b=some u→h'.get? b=some u) (heo:∃ u,h'.get? e=some u)
  (new:qM X.prog X.w (upd H x o) h' x o):Inv X pins σ (upd H x o) { s with heap:=h',toks:=t' }:=I.un (Un.write mu he k heo) (I.hok.write mu he k heo new)
theorem Inv.weak {σ':List (Option V)} (I:Inv X pins σ H s) (hl:σ'.length=σ.length) (w:∀ (i:Nat) v,σ'[i]?=some (some v)→σ[i]?=some (some v)):Inv X pins σ' H s :=
 ⟨I.ok,I.os,I.bare,I.base,let ⟨m,hn,hl'⟩:=I.loc;⟨m,hn,fun i x v e1 e2 e3=>hl' i x v e1 (w i v e2) e3⟩,I.cell,I.free,I.freeC,I.pin,I.hok,hl.trans I.len⟩
theorem Inv.pins_of {pins':List (Addr×Obj)} (I:Inv X pins σ H s) (h:∀ p∈pins',s.heap.get? p.1=some p.2∧H p.1=none∧p.1≠X.env.locals∧p.1∉X.fs∧∀ v,p.2.data≠.cell v):Inv X pins' σ H s :=
 ⟨I.ok,I.os,I.bare,I.base,I.loc,I.cell,I.free,I.freeC,fun p hp=>(List.mem_append.mp hp).elim (fun z=>I.pin p (List.mem_append_left _ z)) (h p),I.hok,I.len⟩
theorem Y0 {N:List Str} (hN:N.Nodup) {i j:Nat} {x:Str} (a:N[i]?=some x) (b:N[j]?=some x):i=j:=by
 obtain ⟨h1,e1⟩:=List.getElem?_eq_some_iff.mp a;obtain ⟨h2,e2⟩:=List.getElem?_eq_some_iff.mp b;exact (List.getElem_inj hN).mp (e1.trans e2.symm)
theorem ZC {M:Model} {A:Around} {E:Value→Shared→Prop} {i:Nat} {x:Str} {v:V} {u:Value} {Q:Unit→Shared→Prop} (I:Inv X pins σ H s) (hN:X.N.Nodup) (hi:X.N[i]?=some x) (hx:Loc X.env.scope x) (r:jr v u)
  (h:∀ s',Inv X pins (σ.set i (some v)) H s'→(∃ a,Heap.SameBut a s.heap s'.heap∧(a=X.env.locals∨X.env.cells.lookup x=some a))→Q () s') (hf:X.fn x=true∨X.env.scope.names.lookup x=some .local:=by first | exact .inl rfl | exact .inr rfl | assumption):wpAny M A (storeName X.env x u) Q E s:=by
 obtain ⟨m,hn,hl⟩:=id I.loc;have hcls:(X.env.scope.kind == .class || (X.env.scope.kind == .module && X.env.locals != X.env.globals))=false:=by rw [I.ok.kind];rfl
 have hiσ:i < σ.length:=by rw [I.len];exact (List.getElem?_eq_some_iff.mp hi).1
 have cne:=I.cne;have tracked:∀ {a:Addr} {h':Heap},(∃ o,s.heap.get? a=some o∧H a=none)→Heap.SameBut a s.heap h'→HOk X.prog X.w H h':=fun {a h'} ha hs b ob e=>by
  obtain ⟨_,_,hfree⟩:=ha;refine (I.hok b ob e).stay (fun c w' hc q=>(hs.2 c ?_).trans q) (fun _ q=>q) fun _ _ q=>q
  rintro rfl
  rcases hc with rfl | hc
  ·rw [hfree] at e;cases e
  ·rw [hfree] at hc;cases hc
 rcases hx with hk | hk
 ·refine wpAny_storeName_local hk hn (fun h' hn' hs=>?_) hcls;obtain ⟨oL,_,_,hoL,_⟩:=id hn;refine h _ ⟨I.ok,I.os,I.bare,⟨fun b o e n hb hx=>?_,fun b o e n hb hx=>?_,I.base.free,fun b o e hx=>?_,I.base.tups,I.base.frzs,I.base.tbls⟩,⟨_,hn',fun j y v' e1 e2 e3=>?_⟩,fun y c e=>?_,I.free,I.freeC,fun p hp=>?_,tracked ⟨oL,hoL,I.free⟩ hs,by simpa using I.len⟩ ⟨_,hs,.inl rfl⟩
  ·exact (hs.2 b (Nat.ne_of_lt (Nat.lt_of_lt_of_le (Heap.lt_size e) I.ok.above))).trans (I.base.keep b o e n hb hx)
  ·obtain ⟨sl,e1⟩:=I.base.slot b o e n hb hx;exact ⟨sl,(hs.2 b (Nat.ne_of_lt (Nat.lt_of_lt_of_le (Heap.lt_size e) I.ok.above))).trans e1⟩
  ·obtain ⟨o',e1⟩:=I.base.there b o e hx;exact ⟨o',(hs.2 b (Nat.ne_of_lt (Nat.lt_of_lt_of_le (Heap.lt_size e) I.ok.above))).trans e1⟩
  ·by_cases hj:j=i
   ·subst hj;rw [hi] at e1;cases e1;rw [List.getElem?_set_self hiσ] at e2;cases e2;exact ⟨u,r,.inl ⟨hk,by simp⟩⟩
   ·rw [List.getElem?_set_ne (Ne.symm hj)] at e2;obtain ⟨u',r',q⟩:=hl j y v' e1 e2 e3;refine ⟨u',r',?_⟩;rcases q with ⟨k,e⟩ | ⟨k,c,e,z⟩
    ·refine .inl ⟨k,?_⟩;have:y≠x:=fun e=>hj (Y0 hN e1 (e ▸ hi));simp [this,e]
    ·exact .inr ⟨k,c,e,z.sameBut hs (cne y c e)⟩
  ·obtain ⟨w',z⟩:=I.cell y c e;exact ⟨w',z.sameBut hs (cne y c e)⟩
  ·obtain ⟨e,n,ne,nf,d⟩:=I.pin p hp;exact ⟨(hs.2 p.1 ne).trans e,n,ne,nf,d⟩
 ·have hfn:X.fn x=true:=by
   rcases hf with z | z
   ·exact z
   ·rw [z] at hk;cases hk
  obtain ⟨c,hc⟩:=I.ok.has x (.inl hk);obtain ⟨w',z⟩:=I.cell x c hc;refine wpAny_storeName_cell I.ok.kind hk hc z (fun h' hc' hs=>?_);obtain ⟨oc,hoc,hocd⟩:=id z;refine h { s with heap:=h' } ⟨I.ok,I.os,I.bare,⟨fun b o e n hb hx=>?_,fun b o e n hb hx=>?_,I.base.free,fun b o e hx=>?_,I.base.tups,I.base.frzs,I.base.tbls⟩,⟨m,hn.sameBut hs (Ne.symm (cne x c hc)),fun j y v' e1 e2 e3=>?_⟩,fun y c' e=>?_,I.free,I.freeC,fun p hp=>?_,tracked ⟨oc,hoc,I.freeC x c hc⟩ hs,by simpa using I.len⟩ ⟨c,hs,.inr hc⟩
  ·exact (hs.2 b (Nat.ne_of_lt (Nat.lt_of_lt_of_le (Heap.lt_size e) (I.ok.cab x c hfn hc)))).trans (I.base.keep b o e n hb hx)
  ·obtain ⟨sl,e1⟩:=I.base.slot b o e n hb hx;exact ⟨sl,(hs.2 b (Nat.ne_of_lt (Nat.lt_of_lt_of_le (Heap.lt_size e) (I.ok.cab x c hfn hc)))).trans e1⟩
  ·obtain ⟨o',e1⟩:=I.base.there b o e hx;exact ⟨o',(hs.2 b (Nat.ne_of_lt (Nat.lt_of_lt_of_le (Heap.lt_size e) (I.ok.cab x c hfn hc)))).trans e1⟩
  ·by_cases hj:j=i
   ·subst hj;rw [hi] at e1;cases e1;rw [List.getElem?_set_self hiσ] at e2;cases e2;exact ⟨u,r,.inr ⟨.inl hk,c,hc,hc'⟩⟩
   ·rw [List.getElem?_set_ne (Ne.symm hj)] at e2;obtain ⟨u',r',q⟩:=hl j y v' e1 e2 e3;refine ⟨u',r',?_⟩;rcases q with q | ⟨k,c',e,z'⟩
    ·exact .inl q
    ·refine .inr ⟨k,c',e,z'.sameBut hs ?_⟩
     rintro rfl
     exact hj (Y0 hN e1 (I.ok.inj _ _ _ e hc ▸ hi))
  ·by_cases hcc:c'=c
   ·subst hcc;exact ⟨_,hc'⟩
   ·obtain ⟨w2,z2⟩:=I.cell y c' e;exact ⟨w2,z2.sameBut hs hcc⟩
  ·obtain ⟨e,n,ne,nf,d⟩:=I.pin p hp;refine ⟨(hs.2 p.1 ?_).trans e,n,ne,nf,d⟩;intro q;rw [q,hoc] at e;have q':oc=p.2:=Option.some.inj e;exact d w' (by rw [← q'];exact hocd)
theorem xk {M:Model} {A:Around} {E:Value→Shared→Prop} {i:Nat} {x:Str} {v:V} {u:Value} {Q:Unit→Shared→Prop} (I:Inv X pins σ H s) (hN:X.N.Nodup) (hi:X.N[i]?=some x) (hx:Loc X.env.scope x) (r:jr v u)
  (h:∀ s',Inv X pins (σ.set i (some v)) H s'→Q () s') (hf:X.fn x=true∨X.env.scope.names.lookup x=some .local:=by first | exact .inl rfl | exact .inr rfl | assumption):wpAny M A (storeName X.env x u) Q E s :=
 ZC I hN hi hx r (fun s' I' _=>h s' I') hf
theorem Inv.call' {s':Shared} {ch:List Addr} (I:Inv X pins σ H s) (ho:s'.os=s.os) (u:Un (frs X.stack) ch H H' s.heap s'.heap) (hok:HOk X.prog X.w H' s'.heap) (hg:AllBare s'.gens)
  (hch:∀ b∈ch,(b∈X.ex∨X.s₀.heap.objs.size≤b)∧b≠X.env.locals∧(∀ x c,X.env.cells.lookup x=some c→c≠b)∧∀ p∈X.pn++pins,p.1≠b):Inv X pins σ H' s':=by
 obtain ⟨h',g',d',t',o'⟩:=s';have e:o'=s.os:=ho;subst e;exact I.call (g':=g') (t':=t') (d':=d') u hok hg hch
end
abbrev XK:=Value→Option Addr→Hp→Prop
abbrev St:=List (Option V)
abbrev VK:=V→Hp→Prop
abbrev TE:=St→Hp→VK→Prop
abbrev TT:=St→Hp→(Bool→Hp→Prop)→Prop
abbrev TA:=St→Hp→(List V→Hp→Prop)→Prop
structure Ends where
 nx:St→Hp→Prop
 rt:VK
 bk:St→Hp→Prop:=fun _ _=>False
 ct:St→Hp→Prop:=fun _ _=>False
abbrev TS:=Ends→St→Hp→Prop
def EP (X:Cx) (pins:List (Addr×Obj)) (σ:St) (Q:VK) (u:Value) (s':Shared):Prop:=∃ v H',Inv X pins σ H' s'∧jr v u∧Q v H'
def TP (X:Cx) (pins:List (Addr×Obj)) (σ:St) (Q:Bool→Hp→Prop) (b:Bool) (s':Shared):Prop:=∃ H',Inv X pins σ H' s'∧Q b H'
def AP (X:Cx) (pins:List (Addr×Obj)) (σ:St) (Q:List V→Hp→Prop) (us:List Value) (s':Shared):Prop:=∃ vs H',Inv X pins σ H' s'∧jw vs us∧Q vs H'
def SP (X:Cx) (pins:List (Addr×Obj)) (D:Ends) (f:Flow) (s':Shared):Prop :=
 match f with
 | .next=>∃ σ' H',Inv X pins σ' H' s'∧D.nx σ' H'
 | .brk=>∃ σ' H',Inv X pins σ' H' s'∧D.bk σ' H'
 | .cont=>∃ σ' H',Inv X pins σ' H' s'∧D.ct σ' H'
 | .ret u=>∃ v σ' H',Inv X pins σ' H' s'∧jr v u∧D.rt v H'
def PE (X:Cx) (e:Expr) (t:TE):Prop :=
 ∀ (pins:List (Addr×Obj)) (s:Shared) (σ:St) (H:Hp) (Q:VK),Inv X pins σ H s→t σ H Q→wpAny (model X.prog X.w) X.A (eval e X.env) (EP X pins σ Q) X.xe s
def PT (X:Cx) (e:Expr) (t:TT):Prop :=
 ∀ (pins:List (Addr×Obj)) (s:Shared) (σ:St) (H:Hp) (Q:Bool→Hp→Prop),Inv X pins σ H s→t σ H Q→wpAny (model X.prog X.w) X.A (isTrue e X.env (eval e X.env)) (TP X pins σ Q) X.xe s
def PW (X:Cx) (e:Expr) (t:TT):Prop :=
 ∀ (whole:Sem Value) (pins:List (Addr×Obj)) (s:Shared) (σ:St) (H:Hp) (Q:Bool→Hp→Prop),Inv X pins σ H s→t σ H Q→wpAny (model X.prog X.w) X.A (isTrue e X.env whole) (TP X pins σ Q) X.xe s
theorem PW.pt {X:Cx} {e:Expr} {t:TT} (h:PW X e t):PT X e t:=h _
def PA (X:Cx) (es:List Expr) (t:TA):Prop :=
 ∀ (pos:Pos) (pins:List (Addr×Obj)) (s:Shared) (σ:St) (H:Hp) (Q:List V→Hp→Prop),Inv X pins σ H s→t σ H Q→wpAny (model X.prog X.w) X.A (spliced (backTo pos (starEach es X.env))) (AP X pins σ Q) X.xe s
def PS (X:Cx) (st:Stmt) (t:TS):Prop :=
 ∀ (pins:List (Addr×Obj)) (s:Shared) (σ:St) (H:Hp) (D:Ends),Inv X pins σ H s→t D σ H→wpAny (model X.prog X.w) X.A (exec st X.env) (SP X pins D) X.xe s
def PSs (X:Cx) (st:List Stmt) (t:TS):Prop :=
 ∀ (pins:List (Addr×Obj)) (s:Shared) (σ:St) (H:Hp) (D:Ends),Inv X pins σ H s→t D σ H→wpAny (model X.prog X.w) X.A (execs st X.env) (SP X pins D) X.xe s
theorem thn {α:Type} {t:Sem α} {Q Q':α→Shared→Prop} {M:Model} {A:Around} {E:Value→Shared→Prop} {s:Shared} (h:wpAny M A t Q E s) (hQ:∀ a s,Q a s→Q' a s):wpAny M A t Q' E s:=wpAny_mono h hQ fun _ _ x=>x
end L2
namespace L2
open PySem PySem.Spec PyProof.Rows
section
variable {X:Cx}
def XF (i:Nat):TE:=fun σ H Q=>∃ v,σ[i]?=some (some v)∧Q v H
def tC (v:V):TE:=fun _ H Q=>Q v H
theorem UR {i:Nat} {x:Str} {pos:Pos} (hN:X.N[i]?=some x) (hv:Vis X.env.scope x) (hd:(x == ("__debug__":Str))=false:=by decide) (hcd:(x == ("__classdict__":Str))=false:=by decide):PE X (.Name x pos) (XF i):=by
 intro pins s σ H Q I h;obtain ⟨v,e,h⟩:=h;obtain ⟨m,hn,hl⟩:=I.loc;obtain ⟨u,r,l⟩:=hl i x v hN e hv;have fin:EP X pins σ Q u s:=⟨v,H,I,r,h⟩;rcases l with ⟨hk,hm⟩ | ⟨hk,c,hc,hcell⟩
 ·exact wpAny_Name (wpAny_loadName_local I.ok.kind hk hn hm fin) hd
 ·rcases hk with hk | hk
  ·exact wpAny_Name (wpAny_loadName_cell I.ok.kind hk hc hcell fin) hd
  ·exact wpAny_Name (wpAny_loadName_free I.ok.kind hk hc hcell fin hcd) hd
theorem jG {i j pos}:PE X (.Constant (.int i) j pos) (tC (.int i)):=fun _ _ _ H _ I h=>wpAny_Constant_int ⟨.int i,H,I.tok _,⟨_,rfl⟩,h⟩
theorem yQ {b j pos}:PE X (.Constant (.bool b) j pos) (tC (.bl b)):=fun _ _ _ H _ I h=>Constant_bool ⟨.bl b,H,I,rfl,h⟩
theorem qf {j pos}:PE X (.Constant .none j pos) (tC .non):=fun _ _ _ H _ I h=>Constant_none ⟨.non,H,I,rfl,h⟩
theorem Uy {x j pos}:PE X (.Constant (.str x) j pos) (tC (.str x)):=fun _ _ _ H _ I h=>Calls.Constant_str ⟨.str x,H,I.tok _,⟨_,rfl⟩,h⟩
def Gl (X:Cx) (x:Str):Prop:=X.env.kindOf x=some .globalImplicit
theorem xH {E:Value→Shared→Prop} {pins:List (Addr×Obj)} {s:Shared} {σ:St} {H:Hp} {x:Str} {u:Value} {pos:Pos} {Q:Value→Shared→Prop} (I:Inv X pins σ H s) (hg:Gl X x) (hm:X.mg x=some u) (h:Q u s)
  (hd:(x == ("__debug__":Str))=false:=by decide):wpAny (model X.prog X.w) X.A (eval (.Name x pos) X.env) Q E s :=
 Calls.Name_function_global I.ok.kind hg (Calls.loadGlobal_global (by rw [I.ok.glob];exact I.mod.glob.keeps I.bk) hm h) hd
theorem v6 {E:Value→Shared→Prop} {pins:List (Addr×Obj)} {s:Shared} {σ:St} {H:Hp} {x:Str} {u:Value} {pos:Pos} {Q:Value→Shared→Prop} (I:Inv X pins σ H s) (hg:Gl X x) (hm:X.mg x=none) (hv:bootBuiltins x=some u) (h:Q u s)
  (hn:x≠"__name__":=by decide) (hd:(x == ("__debug__":Str))=false:=by decide):wpAny (model X.prog X.w) X.A (eval (.Name x pos) X.env) Q E s:=by
 obtain ⟨mb,h1,h2⟩:=I.mod.blt;exact Calls.Name_function_global I.ok.kind hg (Calls.loadGlobal_builtin (by rw [I.ok.glob];exact I.mod.glob.keeps I.bk) hm (by rw [I.ok.blt];exact h1.keeps I.bk) ((h2 x hn).trans hv) h) hd
theorem JK {x:Str} {v:V} {u:Value} {pos:Pos} (hg:Gl X x) (hm:X.mg x=some u) (r:jr v u) (hd:(x == ("__debug__":Str))=false:=by decide):PE X (.Name x pos) (tC v) :=
 fun _ _ _ H _ I h=>xH I hg hm ⟨v,H,I,r,h⟩ hd
theorem yt {x:Str} {v:V} {u:Value} {pos:Pos} (hg:Gl X x) (hm:X.mg x=none) (hv:bootBuiltins x=some u) (r:jr v u) (hn:x≠"__name__":=by decide) (hd:(x == ("__debug__":Str))=false:=by decide):PE X (.Name x pos) (tC v) :=
 fun _ _ _ H _ I h=>v6 I hg hm hv ⟨v,H,I,r,h⟩ hn hd
variable {a b:Expr} {ta tb:TE} {pos:Pos}
def PC (X:Cx) (op:CmpOp) (a b:Expr) (t:TE):Prop :=
 ∀ (pins:List (Addr×Obj)) (s:Shared) (σ:St) (H:Hp) (Q:VK),Inv X pins σ H s→t σ H Q →
  wpAny (model X.prog X.w) X.A (eval a X.env) (fun v s₁=>wpAny (model X.prog X.w) X.A (eval b X.env) (fun u s₂=>wpAny (model X.prog X.w) X.A (compareOp op v u) (EP X pins σ Q) X.xe s₂) X.xe s₁) X.xe s
def tB (t:TE):TT:=fun σ H Q=>t σ H fun x H1=>∃ c,x=.bl c∧Q c H1
theorem v4 {op:CmpOp} {t:TE} (h:PC X op a b t) (h1:behindInMarks op b=false:=by first | exact nobehind _ (by decide) (by decide) | rfl):PT X (.Compare a [op] [b] pos) (tB t):=by
 intro pins s σ H Q I hw;refine wpAny_isTrue_Compare1 (thn (h pins s σ H _ I hw) fun v s1 h1=>thn h1 fun u s2 h2=>thn h2 fun c s3 ⟨x,H1,I1,r1,q1⟩=>?_) h1;obtain ⟨d,rfl,q⟩:=q1;cases r1;exact wpAny_truthy_bool ⟨H1,I1,q⟩
theorem qv {e:Expr} {t:TE} (h:PE X e t) (he:∀ whole,isTrue e X.env whole=(do let v ← whole;standAt e.pos;holding [v] (truthy v)):=by intro _;rfl):PT X e (tB t):=by
 intro pins s σ H Q I hw;refine isTrue_plain (thn (h pins s σ H _ I hw) fun v s1 ⟨x,H1,I1,r1,q1⟩=>?_) (he _);obtain ⟨d,rfl,q⟩:=q1;cases r1;exact wpAny_truthy_bool ⟨H1,I1,q⟩
variable {tA tB':TT} {rest:List Expr}
def j0e (t u:TT):TT:=fun σ H Q=>t σ H fun c H1=>if c=true then u σ H1 Q else Q false H1
def tOr (t u:TT):TT:=fun σ H Q=>t σ H fun c H1=>if c=true then Q true H1 else u σ H1 Q
def wH (t:TT):TT:=fun σ H Q=>t σ H fun c H1=>Q (!c) H1
theorem Xe (ha:PT X a tA):PW X (.BoolOp .And [a] pos) tA:=by
 intro wh pins s σ H Q I h;refine isTrue_and (thn (ha pins s σ H Q I h) fun c s1 e=>?_);cases c with
 | true=>exact isTrue_and_nil e
 | false=>exact e
theorem zc (ha:PT X a tA):PW X (.BoolOp .Or [a] pos) tA:=by
 intro wh pins s σ H Q I h;refine isTrue_or (thn (ha pins s σ H Q I h) fun c s1 e=>?_);cases c with
 | false=>exact isTrue_or_nil e
 | true=>exact e
theorem UN (ha:PT X a tA) (hb:PW X (.BoolOp .And (b :: rest) pos) tB'):PW X (.BoolOp .And (a :: b :: rest) pos) (j0e tA tB'):=by
 intro wh pins s σ H Q I h;refine isTrue_and (thn (ha pins s σ H _ I h) fun c s1 ⟨H1,I1,q1⟩=>?_);cases c with
 | true=>exact hb wh pins s1 σ H1 Q I1 q1
 | false=>exact ⟨H1,I1,q1⟩
theorem v0 (ha:PT X a tA) (hb:PW X (.BoolOp .Or (b :: rest) pos) tB'):PW X (.BoolOp .Or (a :: b :: rest) pos) (tOr tA tB'):=by
 intro wh pins s σ H Q I h;refine isTrue_or (thn (ha pins s σ H _ I h) fun c s1 ⟨H1,I1,q1⟩=>?_);cases c with
 | true=>exact ⟨H1,I1,q1⟩
 | false=>exact hb wh pins s1 σ H1 Q I1 q1
theorem qo (ha:PT X a tA):PT X (.UnaryOp .Not a pos) (wH tA):=by
 intro pins s σ H Q I h;exact isTrue_not (ha pins s σ H (fun c H1=>Q (!c) H1) I h)
def KC (ta tb:TE):TE:=fun σ H Q=>ta σ H fun x H1=>∃ c,x=.bl c∧if c=true then tb σ H1 Q else Q (.bl false) H1
def K6 (ta:TE):TE:=fun σ H Q=>ta σ H fun x H1=>∃ c,x=.bl c∧Q (.bl (!c)) H1
theorem UB {op} {t:TE} (h:PE X a t):PE X (.BoolOp op [a] pos) t:=fun pins s σ H Q I hw=>BoolOp_one (h pins s σ H Q I hw)
theorem U5 (ha:PE X a ta) (hb:PE X (.BoolOp .And (b :: rest) pos) tb):PE X (.BoolOp .And (a :: b :: rest) pos) (KC ta tb):=by
 intro pins s σ H Q I h;refine BoolOp_and (thn (ha pins s σ H _ I h) fun v s1 ⟨x,H1,I1,r1,q1⟩=>?_);obtain ⟨c,rfl,q1⟩:=q1;cases r1;refine wpAny_truthy_bool ?_;cases c with
 | true=>exact hb pins s1 σ H1 Q I1 q1
 | false=>exact ⟨.bl false,H1,I1,rfl,q1⟩
theorem Uk (ha:PE X a ta):PE X (.UnaryOp .Not a pos) (K6 ta):=by
 intro pins s σ H Q I h;refine UnaryOp_ (thn (ha pins s σ H _ I h) fun v s1 ⟨x,H1,I1,r1,q1⟩=>?_);obtain ⟨c,rfl,q1⟩:=q1;cases r1;exact not_of (wpAny_truthy_bool ⟨.bl (!c),H1,I1,rfl,q1⟩)
end
end L2
namespace L2
open PySem PySem.Spec PyProof.Rows
def SqL (K:PySem.W.Frag) (H:Hp) (a:Addr) (xs:List V):Prop :=
 Rd H a (.lst xs) ∨
  ∃ (o:Obj) (its:Array Value) (n:Nat),K.lookup a=some o∧o.cls=.type "list"∧o.dict=none∧o.data=.seq its n∧its.size≤sizeLine∧jw xs its.toList
def SqT (K:PySem.W.Frag) (H:Hp) (a:Addr) (xs:List V):Prop :=
 Rd H a (.tup xs) ∨
  ∃ (o:Obj) (its:Array Value) (n:Nat),K.lookup a=some o∧o.cls=.type "tuple"∧o.data=.seq its n∧its.size≤sizeLine∧jw xs its.toList
def j15:Value→Option V
 | .none=>some .non
 | .bool b=>some (.bl b)
 | .int i _=>some (.int i)
 | .str x _=>some (.str x)
 | .bytes b _=>some (.byt b)
 | .float b _=>some (.flt b)
 | .ref a=>some (.ref a)
 | .type n=>some (.ty n)
 | _=>none
theorem jr.abs {x:V} {u:Value} (r:jr x u):j15 u=some x:=by
 cases x with
 | non=>cases r;rfl
 | bl _=>cases r;rfl
 | int _=>obtain ⟨t,rfl⟩:=r;rfl
 | str _=>obtain ⟨t,rfl⟩:=r;rfl
 | byt _=>obtain ⟨t,rfl⟩:=r;rfl
 | flt _=>obtain ⟨t,rfl⟩:=r;rfl
 | ref _=>cases r;rfl
 | ty _=>cases r;rfl
theorem jr.inj {x y:V} {u:Value} (r:jr x u) (q:jr y u):x=y:=Option.some.inj (r.abs.symm.trans q.abs)
theorem jw.inj:∀ {xs ys:List V} {us:List Value},jw xs us→jw ys us→xs=ys
 | _,_,_,.nil,.nil=>rfl
 | _,_,_,.cons r t,.cons r' t'=>by rw [r.inj r',jw.inj t t']
section
variable {X:Cx} {pins:List (Addr×Obj)} {σ:St} {H:Hp} {s:Shared} {a:Addr} {xs ys:List V}
theorem SqL.of {K:PySem.W.Frag} (h:H a=some (.lst xs)):SqL K H a xs:=.inl (.inl h)
theorem SqT.of {K:PySem.W.Frag} (h:H a=some (.tup xs)):SqT K H a xs:=.inl (.inl h)
theorem Inv.list (I:Inv X pins σ H s) (h:SqL X.K H a xs):∃ its:List Value,jw xs its∧PlainL s.heap a its.toArray∧xs.length≤sizeLine:=by
 rcases h with h | ⟨o,its,n,hk,hc,hd,hs,hz,r⟩
 ·obtain ⟨z,its,n,r,e⟩:=h.ok I.hok;exact ⟨its,r,⟨_,n,e,rfl,rfl,rfl⟩,z⟩
 ·refine ⟨its.toList,r,⟨o,n,I.kIn a o hk,hc,hd,by simpa using hs⟩,?_⟩;have e:=r.length;simp only [Array.length_toList] at e;omega
theorem Inv.tuple (I:Inv X pins σ H s) (h:SqT X.K H a xs):∃ its:List Value,jw xs its∧IsTup s.heap a its.toArray∧xs.length≤sizeLine:=by
 rcases h with h | ⟨o,its,n,hk,hc,hs,hz,r⟩
 ·obtain ⟨z,its,r,p⟩:=h.ok I.hok;exact ⟨its,r,p,z⟩
 ·refine ⟨its.toList,r,⟨o,I.kIn a o hk,hc,n,by simpa using hs⟩,?_⟩;have e:=r.length;simp only [Array.length_toList] at e;omega
theorem Inv.list_inj (I:Inv X pins σ H s) (h:SqL X.K H a xs) (h':SqL X.K H a ys):xs=ys:=by
 obtain ⟨its,r,⟨o,n,e,_,_,d⟩,_⟩:=I.list h;obtain ⟨its',r',⟨o',n',e',_,_,d'⟩,_⟩:=I.list h';rw [e] at e';cases e';rw [d] at d'
 injection d' with d1 _
 have:its=its':=by simpa using congrArg Array.toList d1
 subst this;exact r.inj r'
end
abbrev Cx.wish (X:Cx) (E:Value→Shared→Prop):Cx:={ X with xe:=E }
abbrev Cx.nox (X:Cx):Cx:=X.wish fun _ _=>False
theorem Cx.Ok.wish {X:Cx} (ok:X.Ok) (E:Value→Shared→Prop):(X.wish E).Ok :=
 ⟨ok.mod,ok.kind,ok.glob,ok.blt,ok.above,ok.inj,ok.has,ok.cab,ok.hd,ok.frames,ok.stk,ok.exf,ok.bs,ok.bsz,ok.noex,ok.exfs,ok.funs,ok.frf⟩
theorem Cx.Ok.unwish {X:Cx} {E:Value→Shared→Prop} (ok:(X.wish E).Ok):X.Ok :=
 ⟨ok.mod,ok.kind,ok.glob,ok.blt,ok.above,ok.inj,ok.has,ok.cab,ok.hd,ok.frames,ok.stk,ok.exf,ok.bs,ok.bsz,ok.noex,ok.exfs,ok.funs,ok.frf⟩
section
variable {X:Cx} {pins:List (Addr×Obj)} {σ:St} {H:Hp} {s:Shared} {E:Value→Shared→Prop}
theorem Inv.wish (I:Inv X pins σ H s) (E:Value→Shared→Prop):Inv (X.wish E) pins σ H s:=⟨I.ok.wish E,I.os,I.bare,I.base,I.loc,I.cell,I.free,I.freeC,I.pin,I.hok,I.len⟩
theorem Inv.unwish (I:Inv (X.wish E) pins σ H s):Inv X pins σ H s:=⟨I.ok.unwish,I.os,I.bare,I.base,I.loc,I.cell,I.free,I.freeC,I.pin,I.hok,I.len⟩
theorem SP.unwish {D:Ends} {f:Flow} {s':Shared} (h:SP (X.wish E) pins D f s'):SP X pins D f s':=by
 cases f with
 | next=>obtain ⟨σ',H',I,q⟩:=h;exact ⟨σ',H',I.unwish,q⟩
 | brk=>obtain ⟨σ',H',I,q⟩:=h;exact ⟨σ',H',I.unwish,q⟩
 | cont=>obtain ⟨σ',H',I,q⟩:=h;exact ⟨σ',H',I.unwish,q⟩
 | ret u=>obtain ⟨v,σ',H',I,r,q⟩:=h;exact ⟨v,σ',H',I.unwish,r,q⟩
theorem PSs.nox {st:List Stmt} {t:TS} (h:PSs X.nox st t):PSs X st t:=fun pins s σ H D I hw =>
 wpAny_mono (h pins s σ H D (I.wish _) hw) (fun _ _ q=>q.unwish) fun _ _ z=>False.elim z
end
section
variable {X:Cx} {st:Stmt} {rest:List Stmt} {t u:TS} {e:Expr} {te:TE} {pos:Pos}
def KU:TS:=fun D σ H=>D.nx σ H
def VC (t u:TS):TS:=fun D σ H=>t { D with nx:=u D } σ H
theorem jS:PSs X [] KU:=fun _ _ σ H _ I h=>wpAny_execs_nil ⟨σ,H,I,h⟩
theorem j3 (h1:PS X st t) (h2:PSs X rest u):PSs X (st :: rest) (VC t u):=by
 intro pins s σ H D I h;refine wpAny_execs_cons (thn (h1 pins s σ H { D with nx:=u D } I h) fun f s1 q=>?_);cases f with
 | next =>
  obtain ⟨σ',H',I',q⟩:=q;exact h2 pins s1 σ' H' D I' q
 | ret v=>exact q
 | brk=>exact q
 | cont=>exact q
theorem j6 (h1:PS X st t):PSs X [st] t:=by
 intro pins s σ H D I h;refine wpAny_execs_cons (thn (h1 pins s σ H D I h) fun f s1 q=>?_);cases f with
 | next=>exact wpAny_execs_nil q
 | ret v=>exact q
 | brk=>exact q
 | cont=>exact q
def tBreak:TS:=fun D σ H=>D.bk σ H
theorem VM:PS X (.Break pos) tBreak:=fun _ _ σ H _ I h=>wpAny_Break ⟨σ,H,I,h⟩
theorem Inv.quiet {pins:List (Addr×Obj)} {σ:St} {H:Hp} {s:Shared} (I:Inv X pins σ H s):interactive X.env=false:=by simp [interactive,I.ok.kind]
def KP (te:TE):TS:=fun D σ H=>te σ H fun _ H1=>D.nx σ H1
theorem jZ (he:PE X e te) (hs:swapsWith e none pos.line X.env=pure false:=by rfl):PS X (.Expr e pos) (KP te):=by
 intro pins s σ H D I h;exact wpAny_Expr_any (thn (he pins s σ H _ I h) fun v s1 ⟨x,H1,I1,r1,q1⟩=>⟨σ,H1,I1,q1⟩) I.quiet hs
def wM (te:TE):TS:=fun D σ H=>te σ H D.rt
theorem jO (he:PE X e te):PS X (.Return (some e) pos) (wM te):=by
 intro pins s σ H D I h;exact wpAny_Return_some (thn (he pins s σ H _ I h) fun v s1 ⟨x,H1,I1,r1,q1⟩=>⟨x,σ,H1,I1,r1,q1⟩)
def j0Y (c:TT) (t u:TS):TS:=fun D σ H=>c σ H fun b H1=>if b=true then t D σ H1 else u D σ H1
theorem jz {c:Expr} {a b:List Stmt} {tc:TT} (hc:PT X c tc) (ha:PSs X a t) (hb:PSs X b u):PS X (.If c a b pos) (j0Y tc t u):=by
 intro pins s σ H D I h;refine wpAny_If (thn (hc pins s σ H _ I h) fun d s1 ⟨H1,I1,q1⟩=>?_);cases d with
 | true=>exact ha pins s1 σ H1 D I1 q1
 | false=>exact hb pins s1 σ H1 D I1 q1
def Ui:TS:=fun _ _ _=>False
theorem yX:PS X st Ui:=fun _ _ _ _ _ _ h=>h.elim
end
abbrev TG:=V→St→Hp→(St→Hp→Prop)→Prop
abbrev TGs:=List V→St→Hp→(St→Hp→Prop)→Prop
def PG (X:Cx) (target:Expr) (t:TG):Prop :=
 ∀ (pins:List (Addr×Obj)) (s:Shared) (σ:St) (H:Hp) (v:V) (u:Value) (Q:St→Hp→Prop),Inv X pins σ H s→jr v u→t v σ H Q →
  wpAny (model X.prog X.w) X.A (assign target X.env u) (fun _ s'=>∃ σ' H',Inv X pins σ' H' s'∧Q σ' H') X.xe s
def PGs (X:Cx) (ts:List Expr) (t:TGs):Prop :=
 ∀ (pins:List (Addr×Obj)) (s:Shared) (σ:St) (H:Hp) (vs:List V) (us:List Value) (Q:St→Hp→Prop),Inv X pins σ H s→jw vs us→t vs σ H Q →
  wpAny (model X.prog X.w) X.A (assignInOrder ((assignEach ts X.env).map (·.2)) us) (fun _ s'=>∃ σ' H',Inv X pins σ' H' s'∧Q σ' H') X.xe s
abbrev X8:=V→V→V→Hp→(Hp→Prop)→Prop
def PSet (X:Cx) (t:X8):Prop :=
 ∀ (pins:List (Addr×Obj)) (s:Shared) (σ:St) (H:Hp) (o i v:V) (ov iv u:Value) (Q:Hp→Prop),Inv X pins σ H s→jr o ov→jr i iv→jr v u→t o i v H Q →
  wpAny (model X.prog X.w) X.A (setItem ov iv u) (fun _ s'=>∃ H',Inv X pins σ H' s'∧Q H') X.xe s
abbrev TIp:=V→V→Hp→VK→Prop
def PIp (X:Cx) (op:Operator) (t:TIp):Prop :=
 ∀ (pins:List (Addr×Obj)) (s:Shared) (σ:St) (H:Hp) (x y:V) (v u:Value) (Q:VK),Inv X pins σ H s→jr x v→jr y u→t x y H Q →
  wpAny (model X.prog X.w) X.A (inplaceOp op v u) (EP X pins σ Q) X.xe s
section
variable {X:Cx} {pos:Pos}
def zw (i:Nat):TG:=fun v σ H Q=>Q (σ.set i (some v)) H
theorem jL {i:Nat} {x:Str} (hN:X.N.Nodup) (hi:X.N[i]?=some x) (hx:Loc X.env.scope x) (hf:X.fn x=true∨X.env.scope.names.lookup x=some .local:=by first | exact .inl rfl | exact .inr rfl | assumption):PG X (.Name x pos) (zw i):=by
 intro pins s σ H v u Q I r h;exact wpAny_assign_Name (xk I hN hi hx r (fun s' I'=>⟨_,H,I',h⟩) hf)
def j1I:TGs:=fun vs σ H Q=>vs=[]∧Q σ H
def Wx (t:TG) (u:TGs):TGs:=fun vs σ H Q=>∃ v r,vs=v :: r∧t v σ H fun σ' H'=>u r σ' H' Q
theorem zo:PGs X [] j1I:=by
 intro pins s σ H vs us Q I r h;obtain ⟨e,h⟩:=h;subst e;cases r;exact assignInOrder_nil ⟨σ,H,I,h⟩
theorem qZ {e:Expr} {es:List Expr} {t:TG} {u:TGs} (h1:PG X e t) (h2:PGs X es u)
  (hs:(assignEach (e :: es) X.env).map (·.2)=assign e X.env :: (assignEach es X.env).map (·.2):=by rfl):PGs X (e :: es) (Wx t u):=by
 intro pins s σ H vs us Q I r h;obtain ⟨v,vr,e1,h⟩:=h;subst e1;cases r with
 | cons r rr =>
  rw [hs];refine assignInOrder_cons (thn (h1 pins s σ H _ _ _ I r h) fun _ s1 ⟨σ1,H1,I1,q1⟩=>?_);exact h2 pins s1 σ1 H1 _ _ Q I1 rr q1
def wP (K:PySem.W.Frag) (n:Nat) (t:TGs):TG:=fun v σ H Q=>∃ a xs,v=.ref a∧SqT K H a xs∧xs.length=n∧t xs σ H Q
theorem UE {es:List Expr} {k:Nat} {t:TGs} {n:Nat} (hc:X.calm=true) (h:PGs X es t)
  (hn:(assignEach es X.env).length=n:=by rfl) (hst:(assignEach es X.env).findIdx? (·.1)=none:=by rfl):PG X (.Tuple es k pos) (wP X.K n t):=by
 intro pins s σ H v u Q I r hw;obtain ⟨a,xs,e1,hq,hl,hw⟩:=hw;subst e1;cases r;obtain ⟨its,rv,ht,hz⟩:=I.tuple hq;refine assign_Tuple_tuple (I.ok.hd hc) ht (by simp [hn,← hl,rv.length]) hst fun h' hx=>?_;have I1:Inv X pins σ H { s with heap:=h' }:=I.kept (t':=s.toks) fun b o e=>hx b o (Nat.ne_of_lt (Heap.lt_size e)) e;exact h pins _ σ H xs _ Q I1 (by simpa using rv) hw
def j0W (to ti:TE) (t:X8):TG:=fun v σ H Q=>to σ H fun o H1=>ti σ H1 fun i H2=>t o i v H2 fun H3=>Q σ H3
theorem Zk {o i:Expr} {to ti:TE} {t:X8} (ho:PE X o to) (hi:PE X i ti) (hs:PSet X t)
  (ha:∀ v,assign (.Subscript o i pos) X.env v=(do
   let ov ← holding [v] (eval o X.env)
   let iv ← holding [v,ov] (eval i X.env)
   standAt pos
   holding [v,ov,iv] (setItem ov iv v)
   release [v,ov,iv] []):=by intro _;rfl):PG X (.Subscript o i pos) (j0W to ti t):=by
 intro pins s σ H v u Q I r h;rw [ha];refine wpAny_bind (wpAny_holding (thn (ho pins s σ H _ I h) fun ov s1 ⟨x,H1,I1,r1,q1⟩=>?_));refine wpAny_bind (wpAny_holding (thn (hi pins s1 σ H1 _ I1 q1) fun iv s2 ⟨y,H2,I2,r2,q2⟩=>?_));refine wpAny_bind (wpAny_standAt (wpAny_bind (wpAny_holding (thn (hs pins s2 σ H2 x y v ov iv u _ I2 r1 r2 r q2) fun _ s3 ⟨H3,I3,q3⟩=>?_))));exact wpAny_release ⟨σ,H3,I3,q3⟩
def YQ (te:TE) (g:TG):TS:=fun D σ H=>te σ H fun x H1=>g x σ H1 D.nx
theorem VG {tg e:Expr} {te:TE} {g:TG} (he:PE X e te) (hg:PG X tg g) (hs:swapsWithSole [tg] e pos.line X.env=pure false:=by rfl) (hw:swappedStores [tg] e X.env=pure none:=by rfl)
  (h1:(assignEach [tg] X.env).map (·.2)=[assign tg X.env]:=by rfl):PS X (.Assign [tg] e pos) (YQ te g):=by
 intro pins s σ H D I h;refine wpAny_Assign_stores (thn (he pins s σ H _ I h) fun v s1 ⟨x,H1,I1,r1,q1⟩=>?_) hs hw;rw [h1];exact thn (hg pins s1 σ H1 x v _ I1 r1 q1) fun _ s2 q=>q
theorem jH {i:Nat} {x:Str} {e:Expr} {te:TE} {pos':Pos} (hN:X.N.Nodup) (hi:X.N[i]?=some x) (hx:Loc X.env.scope x) (he:PE X e te) (hs:swapsWith e (some (.Name x pos')) pos.line X.env=pure false:=by rfl) (hf:X.fn x=true∨X.env.scope.names.lookup x=some .local:=by first | exact .inl rfl | exact .inr rfl | assumption) :
  PS X (.Assign [.Name x pos'] e pos) (YQ te (zw i)):=by
 intro pins s σ H D I h;refine wpAny_Assign_Name (thn (he pins s σ H _ I h) fun v s1 ⟨y,H1,I1,r1,q1⟩=>?_) hs;exact xk I1 hN hi hx r1 (fun s2 I2=>⟨_,H1,I2,q1⟩) hf
def j0j (i:Nat) (te:TE) (ti:TIp):TS:=fun D σ H=>∃ x,σ[i]?=some (some x)∧te σ H fun y H1=>ti x y H1 fun z H2=>D.nx (σ.set i (some z)) H2
theorem Vb {i:Nat} {x:Str} {e:Expr} {te:TE} {op:Operator} {ti:TIp} {pos':Pos} (hN:X.N.Nodup) (hi:X.N[i]?=some x) (hx:Loc X.env.scope x) (he:PE X e te) (ho:PIp X op ti) (hf:X.fn x=true∨X.env.scope.names.lookup x=some .local:=by first | exact .inl rfl | exact .inr rfl | assumption) :
  PS X (.AugAssign (.Name x pos') op e pos) (j0j i te ti):=by
 intro pins s σ H D I h;obtain ⟨v,e1,h⟩:=h;obtain ⟨m,hn,hl⟩:=I.loc;have vis:Vis X.env.scope x:=by rcases hx with k | k;exact .inl k;exact .inr (.inl k)
 obtain ⟨u,r,l⟩:=hl i x v hi e1 vis;refine wpAny_AugAssign_Name ?_;have go:wpAny (model X.prog X.w) X.A (eval e X.env) (fun w s₂=>wpAny (model X.prog X.w) X.A (inplaceOp op u w) (fun r s₃=>wpAny (model X.prog X.w) X.A (storeName X.env x r) (fun _=>SP X pins D .next) X.xe s₃) X.xe s₂) X.xe s:=by
  refine thn (he pins s σ H _ I h) fun w s1 ⟨y,H1,I1,r1,q1⟩=>?_;refine thn (ho pins s1 σ H1 v y u w _ I1 r r1 q1) fun z s2 ⟨zv,H2,I2,r2,q2⟩=>?_;exact xk I2 hN hi hx r2 (fun s3 I3=>⟨_,H2,I3,q2⟩) hf
 rcases l with ⟨hk,hm⟩ | ⟨hk,c,hc,hcell⟩
 ·exact wpAny_loadName_local I.ok.kind hk hn hm go
 ·rcases hk with hk | hk
  ·exact wpAny_loadName_cell I.ok.kind hk hc hcell go
  ·rcases hx with k | k
   ·have:X.env.scope.names.lookup x=some .free:=hk;rw [k] at this;cases this
   ·have:X.env.scope.names.lookup x=some .free:=hk;rw [k] at this;cases this
def ipI (f:Int→Int→Int):TIp:=fun x y H Q=>∃ i j,x=.int i∧y=.int j∧Q (.int (f i j)) H
theorem V7:PIp X .Add (ipI fun i j=>i+j):=by
 intro pins s σ H x y v u Q I r1 r2 h;obtain ⟨i,j,e1,e2,q⟩:=h;subst e1;subst e2;obtain ⟨t,rfl⟩:=r1;obtain ⟨t',rfl⟩:=r2;exact iadd_int ⟨.int _,H,I.tok _,⟨_,rfl⟩,q⟩
end
section
variable {X:Cx} {pos:Pos}
def Uo (c:TT) (tb:TS):TS:=fun D σ H=>∃ W:Nat→St→Hp→Prop,(∃ m,W m σ H)∧∀ m σ H,W m σ H →
 c σ H fun b H1=>if b=true then ∃ N:St→Hp→Prop,(∀ σ' H',N σ' H'→∃ m',m' < m∧W m' σ' H')∧tb { D with nx:=N,ct:=N,bk:=D.nx } σ H1 else D.nx σ H1
theorem y9 {c:Expr} {body:List Stmt} {tc:TT} {tb:TS} (hp:PassesOwn (model X.prog X.w) X.A X.env X.xe) (hc:PT X c tc) (hb:PSs X body tb):PS X (.While c body [] pos) (Uo tc tb):=by
 intro pins s σ H D I h;obtain ⟨W,⟨m0,w0⟩,turn⟩:=h;refine wpAny_While (codeAny_whileLoop (fun n s'=>∃ σ' H',Inv X pins σ' H' s'∧W n σ' H') ?_ m0 ⟨σ,H,I,w0⟩)
 rintro n s1 ⟨σ1,H1,I1,w1⟩
 refine wpAny_passesOwn hp (thn (hc pins s1 σ1 H1 _ I1 (turn n σ1 H1 w1)) fun b s2 ⟨H2,I2,q2⟩=>?_);cases b with
 | true =>
  obtain ⟨N,hN,q2⟩:=q2;rw [if_pos rfl];refine wpAny_passesOwn hp (thn (hb pins s2 σ1 H2 _ I2 q2) fun f s3 q3=>?_);cases f with
  | next =>
   obtain ⟨σ3,H3,I3,n3⟩:=q3;obtain ⟨m',hm,w3⟩:=hN σ3 H3 n3;exact ⟨m',hm,σ3,H3,I3,w3⟩
  | cont =>
   obtain ⟨σ3,H3,I3,n3⟩:=q3;obtain ⟨m',hm,w3⟩:=hN σ3 H3 n3;exact ⟨m',hm,σ3,H3,I3,w3⟩
  | brk=>exact q3
  | ret v=>exact q3
 | false =>
  rw [if_neg Bool.false_ne_true];exact wpAny_execs_nil ⟨σ1,H2,I2,q2⟩
end
structure It where
 go:Nat→Hp→Prop
 yld:Nat→Hp→V→Hp→Prop
 stop:Nat→Hp→Prop
def vD (X:Cx) (pins:List (Addr×Obj)) (H:Hp) (b:Addr):Prop :=
 H b=none∧b≠X.env.locals∧b∉X.fs∧(b∈X.ex∨X.s₀.heap.objs.size≤b)∧(∀ x c,X.env.cells.lookup x=some c→c≠b)∧∀ p∈X.pn++pins,p.1≠b
theorem Inv.fpOk {X:Cx} {pins:List (Addr×Obj)} {σ:St} {H H':Hp} {s:Shared} {b:Addr} (I:Inv X pins σ H s) (hb:s.heap.objs.size≤b) (hn:H' b=none):vD X pins H' b:=by
 refine ⟨hn,Nat.ne_of_gt (Nat.lt_of_lt_of_le I.lt hb),I.nofs hb,.inr (Nat.le_trans I.sz hb),fun x c e z=>?_,fun p hp z=>?_⟩
 ·obtain ⟨v,q⟩:=I.cell x c e;exact absurd (Nat.lt_of_lt_of_le q.lt (by rw [z];exact hb)) (Nat.lt_irrefl _)
 ·exact absurd (Nat.lt_of_lt_of_le (Heap.lt_size (I.pin p hp).1) (by rw [z];exact hb)) (Nat.lt_irrefl _)
structure Y9 (P:Program) (w:World) (K:PySem.W.Frag) (tg:Expr) (J:It) (fp:List Addr) (it:Addr) (tn:Nat→Heap→Prop):Prop where
 mem:it∈fp
 obj:∀ i h,tn i h→∀ b∈fp,∃ o,h.get? b=some o∧∀ v,o.data≠.cell v
 keep:∀ i h h',tn i h→(∀ b∈fp,∀ o,h.get? b=some o→h'.get? b=some o)→tn i h'
 item:∀ (X:Cx),X.prog=P→X.w=w→X.K=K→X.calm=true→∀ (i:Nat) (pins:List (Addr×Obj)) (s:Shared) (σ:St) (H:Hp) (E:Value→Shared→Prop),Inv X pins σ H s→(∀ b∈fp,vD X pins H b)→tn i s.heap→J.go i H →
  wpAny (model P w) X.A (pyNext (.ref it)) (fun r s1=>∃ u,r=some u ∧
   wpAny (model P w) X.A (letOwnedTupleGo tg (.ref it) u) (fun _ s2=>∃ x H',Inv X pins σ H' s2∧jr x u∧J.yld i H x H'∧tn (i+1) s2.heap∧∀ b∈fp,H' b=none) E s1) E s
 done:∀ (X:Cx),X.prog=P→X.w=w→X.K=K→X.calm=true→∀ (i:Nat) (pins:List (Addr×Obj)) (s:Shared) (σ:St) (H:Hp) (E:Value→Shared→Prop),Inv X pins σ H s→(∀ b∈fp,vD X pins H b)→tn i s.heap→J.stop i H →
  wpAny (model P w) X.A (pyNext (.ref it)) (fun r s1=>r=none∧Inv X pins σ H s1) E s
 self:∀ (A:Around) (i:Nat) (s:Shared) (Q:Value→Shared→Prop) (E:Value→Shared→Prop),tn i s.heap→Q (.ref it) s→wpAny (model P w) A (pyIter (.ref it)) Q E s
abbrev TI:=St→Hp→(It→Hp→Prop)→Prop
def PIE (X:Cx) (pins:List (Addr×Obj)) (σ:St) (tg:Expr) (R:It→Hp→Prop) (itv:Value) (s2:Shared):Prop :=
 ∃ (it:Addr) (fp:List Addr) (tn:Nat→Heap→Prop) (J:It) (H':Hp),itv=.ref it∧Inv X pins σ H' s2∧Y9 X.prog X.w X.K tg J fp it tn∧tn 0 s2.heap∧(∀ b∈fp,vD X pins H' b)∧R J H'
def PI (X:Cx) (tg iter:Expr) (wi:TI):Prop :=
 ∀ (pins:List (Addr×Obj)) (s:Shared) (σ:St) (H:Hp) (R:It→Hp→Prop),Inv X pins σ H s→wi σ H R →
  wpAny (model X.prog X.w) X.A (eval iter X.env) (fun v s1=>wpAny (model X.prog X.w) X.A (pyIter v) (PIE X pins σ tg R) X.xe s1) X.xe s
theorem K4 {M:Model} {A:Around} {E:Value→Shared→Prop} {s:Shared} {tg:Expr} {it:Addr} {u:Value} {o:Obj} {n:String} {vs:Array Value} {Q:Unit→Shared→Prop} (ho:s.heap.get? it=some o) (hc:o.cls=.type n) (hd:o.data=.fields vs)
    (hn:["enumerate","zip","dict_itemiterator","dict_reverseitemiterator","odict_iterator","itertools.zip_longest","itertools.pairwise"].contains n=false) (hQ:Q () s):wpAny M A (letOwnedTupleGo tg (.ref it) u) Q E s:=by
  unfold letOwnedTupleGo;cases tg <;> first
    | exact wpAny_pure hQ
    | (cases u <;> first
        | exact wpAny_pure hQ
        | (refine wpAny_bind (wpAny_load ho ?_)
           rw [hc,hd];show wpAny M A (if (["enumerate","zip","dict_itemiterator","dict_reverseitemiterator","odict_iterator","itertools.zip_longest","itertools.pairwise"].contains n && vs[0]? == some (rawInt _))=true then _ else _) Q E s;rw [if_neg (by intro h;rw [hn,Bool.false_and] at h;cases h)];exact wpAny_pure hQ))
def Itl (K:PySem.W.Frag) (a:Addr):It :=
 ⟨fun i H=>∃ xs x,SqL K H a xs∧xs[i]?=some x,fun i H x H'=>H'=H∧∀ xs,SqL K H a xs→xs[i]?=some x,fun i H=>∃ xs,SqL K H a xs∧xs.length≤i⟩
def Itr (lo:Int) (n:Nat):It:=⟨fun i _=>i < n,fun i H x H'=>H'=H∧x=.int (lo+i),fun i _=>n≤i⟩
theorem Ze {P:Program} {w:World} {K:PySem.W.Frag} {tg:Expr} (a it:Addr):Y9 P w K tg (Itl K a) [it] it (fun i h=>h.IsListIter it a i) where
 mem:=by simp
 obj:=fun i h st b hb=>by
  have e:b=it:=by simpa using hb
  subst e;obtain ⟨o,e,c,d⟩:=st;exact ⟨o,e,fun v z=>by rw [d] at z;cases z⟩
 keep:=fun i h h' st k=>st.at fun o e=>k it (by simp) o e
 item:=by
  intro X hP hw hK hc i pins s σ H E I hf st hg;subst hP hw hK;obtain ⟨xs,x,hq,hx⟩:=hg;obtain ⟨its,rv,p,hz⟩:=I.list hq;obtain ⟨u,hu,ru⟩:=rv.get hx;obtain ⟨f0,f1,f2,f3,f4,f5⟩:=hf it (by simp);refine wpAny_pyNext_list_item st p.isList (x:=u) (by simpa using hu) fun h' st' sb=>?_;have I1:Inv X pins σ H { s with heap:=h' }:=I.turned (t':=s.toks) (fun b o hb e=>(sb.2 b hb).trans e) f0 f1 f3 f4 f5;obtain ⟨o,e,c,d⟩:=id st';exact ⟨u,rfl,K4 (s:={ s with heap:=h' }) e c d (by decide) ⟨x,H,I1,ru,⟨rfl,fun ys hy=>by rw [I.list_inj hy hq];exact hx⟩,st',fun b hb=>(hf b hb).1⟩⟩
 done:=by
  intro X hP hw hK hc i pins s σ H E I hf st hg;subst hP hw hK;obtain ⟨xs,hq,hx⟩:=hg;obtain ⟨its,rv,p,hz⟩:=I.list hq;obtain ⟨f0,f1,f2,f3,f4,f5⟩:=hf it (by simp);have hl:=rv.length;exact wpAny_pyNext_list_end (I.ok.hd hc) st p.isList (by simp;omega) fun h' eb=>⟨rfl,I.turned (t':=s.toks) (fun b o hb e=>eb b o hb e) f0 f1 f3 f4 f5⟩
 self:=fun _ _ _ _ _ st h=>wpAny_pyIter_listiter st h
theorem YA {P:Program} {w:World} {K:PySem.W.Frag} {tg:Expr} (it:Addr) (lo:Int) (n:Nat):Y9 P w K tg (Itr lo n) [it] it (fun i h=>IsRangeIter h it (lo+(i:Nat) * 1) ((n:Int) - (i:Nat)) 1) where
 mem:=by simp
 obj:=fun i h st b hb=>by
  have e:b=it:=by simpa using hb
  subst e;exact ⟨_,st,fun v z=>by
   have z':Data.fields _=Data.cell v:=z;cases z'⟩
 keep:=fun i h h' st k=>k it (by simp) _ st
 item:=by
  intro X hP hw hK hc i pins s σ H E I hf st hg;subst hP hw hK;obtain ⟨f0,f1,f2,f3,f4,f5⟩:=hf it (by simp);have W:=Walks.range (prog:=X.prog) (w:=X.w) (I.ok.hd hc) it lo 1 n;refine W.item i s _ _ hg st fun v h' tk hv st' kk=>?_;obtain ⟨t,rfl⟩:=hv;have I1:Inv X pins σ H { s with heap:=h',toks:=tk }:=I.turned (fun b o hb e=>kk b o (by simpa using hb) e) f0 f1 f3 f4 f5;refine ⟨_,rfl,K4 (s:={ s with heap:=h',toks:=tk }) (n:="range_iterator") st' rfl rfl (by decide) ⟨.int (lo+i),H,I1,⟨t,?_⟩,⟨rfl,rfl⟩,st',fun b hb=>(hf b hb).1⟩⟩;rw [Int.mul_one]
 done:=by
  intro X hP hw hK hc i pins s σ H E I hf st hg;subst hP hw hK;obtain ⟨f0,f1,f2,f3,f4,f5⟩:=hf it (by simp);exact wpAny_pyNext_range_end (I.ok.hd hc) st (by have:n≤i:=hg;omega) fun h' eb=>⟨rfl,I.turned (t':=s.toks) (fun b o hb e=>eb b o hb e) f0 f1 f3 f4 f5⟩
 self:=fun _ _ _ _ _ st h=>wpAny_pyIter_rangeiter st h
end L2
namespace L2
open PySem PySem.Spec PyProof.Rows
section
variable {X:Cx} {tg:Expr}
def Vg (K:PySem.W.Frag) (tl:TE):TI:=fun σ H R=>tl σ H fun x H1=>∃ a,x=.ref a∧(∃ xs,SqL K H1 a xs)∧R (Itl K a) H1
theorem XI {l:Expr} {tl:TE} (hl:PE X l tl):PI X tg l (Vg X.K tl):=by
 intro pins s σ H R I h;refine thn (hl pins s σ H _ I h) fun v s1 ⟨x,H1,I1,r1,q1⟩=>?_;obtain ⟨a,e,⟨xs,hq⟩,q⟩:=q1;subst e;cases r1;obtain ⟨its,rv,p,hz⟩:=I1.list hq;refine wpAny_pyIter_list p.isList ?_;refine ⟨s1.heap.objs.size,[s1.heap.objs.size],_,_,H1,rfl,I1.kept (t':=s1.toks) fun b o e=>Heap.get?_push_of_some _ e,Ze a _,⟨_,Heap.get?_push_size _ rfl,rfl,rfl⟩,fun b hb=>?_,q⟩;have e:b=s1.heap.objs.size:=by simpa using hb
 subst e;exact I1.fpOk (Nat.le_refl _) (I1.hok.fresh (Nat.le_refl _))
theorem Qu {pins:List (Addr×Obj)} {σ:St} {H:Hp} {s:Shared} {R:It→Hp→Prop} {E:Value→Shared→Prop} {lo hi:Int} {t u v:Tok} {tk:Nat} (I:Inv X pins σ H s) (h1:-(2 ^ 62)≤lo) (h2:lo < 2 ^ 62) (h3:-(2 ^ 62)≤hi) (h4:hi < 2 ^ 62)
  (q:R (Itr lo (hi - lo).toNat) H):wpAny (model X.prog X.w) X.A (pyIter (.ref s.heap.objs.size)) (PIE X pins σ tg R) E { s with heap:=s.heap.push { cls:=.type "range",data:=.fields #[.int lo t,.int hi u,.int 1 v] },toks:=tk }:=by
 refine wpAny_pyIter_range (IsRange.new ..) (small_one h1 h2 h3 h4) ?_;have I1:Inv X pins σ H { s with heap:=s.heap.push { cls:=.type "range",data:=.fields #[.int lo t,.int hi u,.int 1 v] },toks:=tk }:=I.kept fun b o e=>Heap.get?_push_of_some _ e;refine ⟨(s.heap.push { cls:=.type "range",data:=.fields #[.int lo t,.int hi u,.int 1 v] }).objs.size,[(s.heap.push { cls:=.type "range",data:=.fields #[.int lo t,.int hi u,.int 1 v] }).objs.size],_,_,H,rfl,
  I1.kept (t':=tk) fun b o e=>Heap.get?_push_of_some _ e,YA _ lo (hi - lo).toNat,?_,fun b hb=>?_,q⟩
 ·have e1:lo+((0:Nat):Int) * 1=lo:=by simp
  have e2:(((hi - lo).toNat:Nat):Int) - ((0:Nat):Int)=Builtin.Range.rangeSize lo hi 1:=by rw [rangeSize_one];split <;> omega
  show IsRangeIter _ _ (lo+((0:Nat):Int) * 1) ((((hi - lo).toNat:Nat):Int) - ((0:Nat):Int)) 1;rw [e1,e2];exact Heap.get?_push_size _ rfl
 ·have e:b=(s.heap.push { cls:=.type "range",data:=.fields #[.int lo t,.int hi u,.int 1 v] }).objs.size:=by simpa using hb
  subst e;exact I1.fpOk (Nat.le_refl _) (I1.hok.fresh (Nat.le_refl _))
def Xs (ta:TA):TI:=fun σ H R=>ta σ H fun vs H1=>∃ j:Int,vs=[.int j]∧-(2 ^ 62)≤j∧j < 2 ^ 62∧R (Itr 0 j.toNat) H1
def KE (ta:TA):TI:=fun σ H R=>ta σ H fun vs H1=>∃ i j:Int,vs=[.int i,.int j]∧(-(2 ^ 62)≤i∧i < 2 ^ 62∧-(2 ^ 62)≤j∧j < 2 ^ 62)∧R (Itr i (j - i).toNat) H1
theorem qI {a:Expr} {ta:TA} {p pos:Pos} (hg:Gl X "range") (hm:X.mg "range"=none) (ha:PA X [a] ta) (hs:starEach [a] X.env=[(false,eval a X.env)]:=by rfl):PI X tg (.Call (.Name "range" p) [a] [] pos) (Xs ta):=by
 intro pins s σ H R I h;refine Call_ (v6 I hg hm boot_range (PyProof.Rows.callWith_type1 (thn (ha pos pins s σ H _ I h) fun us s1 ⟨vs,H1,I1,r1,q1⟩=>?_) hs rfl));obtain ⟨j,e,q1,q2,q⟩:=q1;subst e;cases r1 with
 | cons r rr =>
  cases rr;obtain ⟨t,rfl⟩:=r;exact call_range_1 (Qu I1 (by omega) (by omega) q1 q2 (by simpa using q))
theorem Za {a b:Expr} {ta:TA} {p pos:Pos} (hg:Gl X "range") (hm:X.mg "range"=none) (ha:PA X [a,b] ta) (hs:starEach [a,b] X.env=[(false,eval a X.env),(false,eval b X.env)]:=by rfl) (hs2:starEach [b] X.env=[(false,eval b X.env)]:=by rfl) :
  PI X tg (.Call (.Name "range" p) [a,b] [] pos) (KE ta):=by
 intro pins s σ H R I h;refine Call_ (v6 I hg hm boot_range (PyProof.Rows.callWith_type1 (thn (ha pos pins s σ H _ I h) fun us s1 ⟨vs,H1,I1,r1,q1⟩=>?_) (by rw [hs,hs2]) (by rw [hs2];rfl)));obtain ⟨i,j,e,⟨q1,q2,q3,q4⟩,q⟩:=q1;subst e;cases r1 with
 | cons r rr =>
  cases rr with
  | cons r' rr =>
   cases rr;obtain ⟨t,rfl⟩:=r;obtain ⟨t',rfl⟩:=r';exact call_range_2 (Qu I1 q1 q2 q3 q4 q)
def j0N (wi:TI) (g:TG) (tb:TS):TS:=fun D σ H=>wi σ H fun J H1=>∃ W:Nat→Nat→St→Hp→Prop,(∃ m,W 0 m σ H1)∧∀ i m σ H,W i m σ H →
 (J.stop i H∧D.nx σ H)∨(J.go i H∧∃ N:St→Hp→Prop,(∀ σ' H',N σ' H'→∃ m',m' < m∧W (i+1) m' σ' H')∧∀ x H',J.yld i H x H'→g x σ H' fun σ2 H2=>tb { D with nx:=N,ct:=N,bk:=D.nx } σ2 H2)
def JZ (fp:List Addr) (h:Heap):List (Addr×Obj):=fp.filterMap fun b=>(h.get? b).map fun o=>(b,o)
theorem qu {fp:List Addr} {h:Heap} {b:Addr} {o:Obj} (hb:b∈fp) (e:h.get? b=some o):(b,o)∈JZ fp h:=List.mem_filterMap.mpr ⟨b,hb,by rw [e];rfl⟩
theorem ZK {fp:List Addr} {h:Heap} {p:Addr×Obj} (hp:p∈JZ fp h):p.1∈fp∧h.get? p.1=some p.2:=by
 obtain ⟨b,hb,e⟩:=List.mem_filterMap.mp hp;cases q:h.get? b with
 | none=>rw [q] at e;cases e
 | some o =>
  rw [q] at e;have e':(b,o)=p:=Option.some.inj e;subst e';exact ⟨hb,q⟩
theorem Inv.pinned {pins:List (Addr×Obj)} {σ:St} {H:Hp} {s:Shared} {fp:List Addr} (I:Inv X pins σ H s) (hf:∀ b∈fp,vD X pins H b) (ho:∀ b∈fp,∃ o,s.heap.get? b=some o∧∀ v,o.data≠.cell v):Inv X (pins++JZ fp s.heap) σ H s :=
 I.pins_of fun p hp=>(List.mem_append.mp hp).elim (fun z=>I.pin p (List.mem_append_right _ z)) fun z=>by
  obtain ⟨hb,e⟩:=ZK z;obtain ⟨f0,f1,f2,_⟩:=hf p.1 hb;obtain ⟨o,e',d⟩:=ho p.1 hb;rw [e] at e';cases e';exact ⟨e,f0,f1,f2,d⟩
theorem Inv.unpinned {pins pl:List (Addr×Obj)} {σ:St} {H:Hp} {s:Shared} (I:Inv X (pins++pl) σ H s):Inv X pins σ H s:=I.pins_of fun p hp=>I.pin p (List.mem_append_right _ (List.mem_append_left _ hp))
theorem qC {iter:Expr} {body:List Stmt} {wi:TI} {g:TG} {tb:TS} {pos:Pos} (hp:PassesOwn (model X.prog X.w) X.A X.env X.xe) (hc:X.calm=true) (hi:PI X tg iter wi) (hg:PG X tg g) (hb:PSs X body tb)
  (hs:∀ x,foldedSetIterable iter X.env x=pure x:=by intro _;rfl):PS X (.For tg iter body [] pos) (j0N wi g tb):=by
 intro pins s σ H D I h;refine wpAny_For (thn (hi pins s σ H _ I h) fun v s1 h1=>thn h1 fun itv s2 h2=>?_) hs;obtain ⟨it,fp,tn,J,H2,e,I2,T,st2,f2,W,⟨m0,w0⟩,turn⟩:=h2;subst e;have stat:∀ {H':Hp},(∀ b∈fp,H' b=none)→∀ b∈fp,vD X pins H' b:=fun hn b hb=>⟨hn b hb,(f2 b hb).2⟩;refine codeAny_forLoop_any (fun n s'=>∃ i σ' H',Inv X pins σ' H' s'∧tn i s'.heap∧(∀ b∈fp,H' b=none)∧W i n σ' H') ?_ m0 ⟨0,σ,H2,I2,st2,fun b hb=>(f2 b hb).1,w0⟩
 rintro n s3 ⟨i,σ3,H3,I3,st3,fr3,w3⟩
 rcases turn i n σ3 H3 w3 with ⟨stop,qn⟩ | ⟨go,N,hN,step⟩
 ·refine wpAny_passesOwn hp (thn (T.done X rfl rfl rfl hc i pins s3 σ3 H3 X.xe I3 (stat fr3) st3 stop) fun r s4 ⟨hr,I4⟩=>?_);subst hr;exact wpAny_execs_nil ⟨σ3,H3,I4,qn⟩
 ·refine wpAny_passesOwn hp (thn (T.item X rfl rfl rfl hc i pins s3 σ3 H3 X.xe I3 (stat fr3) st3 go) fun r s4 ⟨u,hr,h4⟩=>?_);subst hr;refine wpAny_passesOwn hp (thn h4 fun _ s5 ⟨x,H5,I5,r5,y5,st5,fr5⟩=>?_);have I5':=I5.pinned (stat fr5) (T.obj _ _ st5);refine wpAny_passesOwn hp (thn (hg _ s5 σ3 H5 x u _ I5' r5 (step x H5 y5)) fun _ s6 ⟨σ6,H6,I6,q6⟩=>?_);refine wpAny_passesOwn hp (thn (hb _ s6 σ6 H6 _ I6 q6) fun f s7 q7=>?_);have again:∀ {σ7:St} {H7:Hp},Inv X (pins++JZ fp s5.heap) σ7 H7 s7→N σ7 H7→∃ m,m < n∧∃ i σ' H',Inv X pins σ' H' s7∧tn i s7.heap∧(∀ b∈fp,H' b=none)∧W i m σ' H':=fun {σ7 H7} I7 n7=>by
   obtain ⟨m',hm,w7⟩:=hN σ7 H7 n7;refine ⟨m',hm,i+1,σ7,H7,I7.unpinned,T.keep _ _ _ st5 fun b hb o e=>(I7.pin (b,o) (List.mem_append_right _ (List.mem_append_right _ (qu hb e)))).1,fun b hb=>?_,w7⟩;obtain ⟨o,e,d⟩:=T.obj _ _ st5 b hb;exact (I7.pin (b,o) (List.mem_append_right _ (List.mem_append_right _ (qu hb e)))).2.1
  cases f with
  | next=>obtain ⟨σ7,H7,I7,n7⟩:=q7;exact again I7 n7
  | cont=>obtain ⟨σ7,H7,I7,n7⟩:=q7;exact again I7 n7
  | brk=>obtain ⟨σ7,H7,I7,q7⟩:=q7;exact ⟨σ7,H7,I7.unpinned,q7⟩
  | ret v=>obtain ⟨x7,σ7,H7,I7,r7,q7⟩:=q7;exact ⟨x7,σ7,H7,I7.unpinned,r7,q7⟩
end
theorem qT {K:PySem.W.Frag} {a:Addr} {xs:List V} {g:TG} {tb:TS} {D:Ends} {σ:St} {H:Hp} (Pv:Nat→St→Hp→Prop) (h0:Pv 0 σ H) (hl:∀ i σ H,i≤xs.length→Pv i σ H→SqL K H a xs)
  (hs:∀ i x σ H,xs[i]?=some x→Pv i σ H→g x σ H fun σ2 H2=>tb { D with nx:=Pv (i+1),ct:=Pv (i+1),bk:=D.nx } σ2 H2) (hd:∀ σ H,Pv xs.length σ H→D.nx σ H) :
  ∃ W:Nat→Nat→St→Hp→Prop,(∃ m,W 0 m σ H)∧∀ i m σ H,W i m σ H →
   ((Itl K a).stop i H∧D.nx σ H)∨((Itl K a).go i H∧∃ N:St→Hp→Prop,(∀ σ' H',N σ' H'→∃ m',m' < m∧W (i+1) m' σ' H')∧∀ x H',(Itl K a).yld i H x H'→g x σ H' fun σ2 H2=>tb { D with nx:=N,ct:=N,bk:=D.nx } σ2 H2):=by
 refine ⟨fun i m σ H=>m=xs.length - i∧i≤xs.length∧Pv i σ H,⟨xs.length,by simp,Nat.zero_le _,h0⟩,?_⟩
 rintro i m σ H ⟨rfl,hi,p⟩
 have q:=hl i σ H hi p
 by_cases hlt:i < xs.length
 ·refine .inr ⟨⟨xs,xs[i],q,by simp [hlt]⟩,Pv (i+1),fun σ' H' p'=>⟨xs.length - (i+1),by omega,rfl,hlt,p'⟩,fun x H' y=>?_⟩;obtain ⟨e,y⟩:=y;subst e;exact hs i x σ _ (y xs q) p
 ·have e:i=xs.length:=by omega
  subst e;exact .inl ⟨⟨xs,q,Nat.le_refl _⟩,hd σ H p⟩
theorem qR {lo:Int} {n:Nat} {g:TG} {tb:TS} {D:Ends} {σ:St} {H:Hp} (Pv:Nat→St→Hp→Prop) (h0:Pv 0 σ H)
  (hs:∀ i σ H,i < n→Pv i σ H→g (.int (lo+i)) σ H fun σ2 H2=>tb { D with nx:=Pv (i+1),ct:=Pv (i+1),bk:=D.nx } σ2 H2) (hd:∀ σ H,Pv n σ H→D.nx σ H) :
  ∃ W:Nat→Nat→St→Hp→Prop,(∃ m,W 0 m σ H)∧∀ i m σ H,W i m σ H →
   ((Itr lo n).stop i H∧D.nx σ H)∨((Itr lo n).go i H∧∃ N:St→Hp→Prop,(∀ σ' H',N σ' H'→∃ m',m' < m∧W (i+1) m' σ' H')∧∀ x H',(Itr lo n).yld i H x H'→g x σ H' fun σ2 H2=>tb { D with nx:=N,ct:=N,bk:=D.nx } σ2 H2):=by
 refine ⟨fun i m σ H=>m=n - i∧i≤n∧Pv i σ H,⟨n,by simp,Nat.zero_le _,h0⟩,?_⟩
 rintro i m σ H ⟨rfl,hi,p⟩
 by_cases hlt:i < n
 ·refine .inr ⟨hlt,Pv (i+1),fun σ' H' p'=>⟨n - (i+1),by omega,rfl,hlt,p'⟩,fun x H' y=>?_⟩;obtain ⟨e,y⟩:=y;subst e y;exact hs i σ _ hlt p
 ·have e:i=n:=by omega
  subst e;exact .inl ⟨Nat.le_refl _,hd σ H p⟩
end L2
namespace L2
open PySem PySem.Spec PyProof.Rows
abbrev R2:=V→V→Hp→VK→Prop
def OpR (X:Cx) (f:Value→Value→Sem Value) (r:R2):Prop :=
 ∀ (pins:List (Addr×Obj)) (s:Shared) (σ:St) (H:Hp) (x y:V) (v u:Value) (Q:VK),Inv X pins σ H s→jr x v→jr y u→r x y H Q →
  wpAny (model X.prog X.w) X.A (f v u) (EP X pins σ Q) X.xe s
def UnR (X:Cx) (f:Value→Sem Value) (r:V→Hp→VK→Prop):Prop :=
 ∀ (pins:List (Addr×Obj)) (s:Shared) (σ:St) (H:Hp) (x:V) (v:Value) (Q:VK),Inv X pins σ H s→jr x v→r x H Q →
  wpAny (model X.prog X.w) X.A (f v) (EP X pins σ Q) X.xe s
def zC (X:Cx) (f:Value) (r:List V→Hp→VK→Prop):Prop :=
 ∀ (pins:List (Addr×Obj)) (s:Shared) (σ:St) (H:Hp) (xs:List V) (us:List Value) (Q:VK),Inv X pins σ H s→jw xs us→r xs H Q →
  wpAny (model X.prog X.w) X.A (call f us) (EP X pins σ Q) X.xe s
def tOp (r:R2) (ta tb:TE):TE:=fun σ H Q=>ta σ H fun x H1=>tb σ H1 fun y H2=>r x y H2 Q
def tUn (r:V→Hp→VK→Prop) (ta:TE):TE:=fun σ H Q=>ta σ H fun x H1=>r x H1 Q
def rI (C:Int→Int→Prop) (g:Int→Int→V):R2:=fun x y H Q=>∃ i j,x=.int i∧y=.int j∧C i j∧Q (g i j) H
def rI0 (g:Int→Int→V):R2:=fun x y H Q=>∃ i j,x=.int i∧y=.int j∧Q (g i j) H
def rU (g:Int→V):V→Hp→VK→Prop:=fun x H Q=>∃ i,x=.int i∧Q (g i) H
section
variable {X:Cx} {a b c:Expr} {ta tb tc:TE} {pos:Pos}
theorem UD (ha:PE X a ta) (hb:PE X b tb) {pins:List (Addr×Obj)} {s:Shared} {σ:St} {H:Hp} {R:V→V→Hp→Prop} (I:Inv X pins σ H s)
  (h:ta σ H fun x H1=>tb σ H1 fun y H2=>R x y H2) {Q:Value→Shared→Prop} {f:Value→Value→Sem Value}
  (hf:∀ v u s2 x y H2,Inv X pins σ H2 s2→jr x v→jr y u→R x y H2→wpAny (model X.prog X.w) X.A (f v u) Q X.xe s2) :
  wpAny (model X.prog X.w) X.A (eval a X.env) (fun v s₁=>wpAny (model X.prog X.w) X.A (eval b X.env) (fun u s₂=>wpAny (model X.prog X.w) X.A (f v u) Q X.xe s₂) X.xe s₁) X.xe s:=by
 refine thn (ha pins s σ H _ I h) fun v s1 ⟨x,H1,I1,r1,q1⟩=>?_;refine thn (hb pins s1 σ H1 _ I1 q1) fun u s2 ⟨y,H2,I2,r2,q2⟩=>?_;exact hf v u s2 x y H2 I2 r1 r2 q2
theorem jq {op:Operator} {r:R2} (ho:OpR X (binaryOp op) r) (ha:PE X a ta) (hb:PE X b tb):PE X (.BinOp a op b pos) (tOp r ta tb):=by
 intro pins s σ H Q I h;exact wpAny_BinOp (UD ha hb I h fun v u s2 x y H2 I2 rx ry q=>ho pins s2 σ H2 x y v u Q I2 rx ry q)
theorem KA {op:UnaryOp} {r:V→Hp→VK→Prop} (ho:UnR X (unaryOp op) r) (ha:PE X a ta):PE X (.UnaryOp op a pos) (tUn r ta):=by
 intro pins s σ H Q I h;exact UnaryOp_ (thn (ha pins s σ H _ I h) fun v s1 ⟨x,H1,I1,r1,q1⟩=>ho pins s1 σ H1 x v Q I1 r1 q1)
theorem opI {f:Value→Value→Sem Value} {C:Int→Int→Prop} {g:Int→Int→Int}
  (rule:∀ (i j:Int) (t u:Tok) (s:Shared) (Q:Value→Shared→Prop) (E:Value→Shared→Prop),C i j→Q (.int (g i j) s.toks) { s with toks:=s.toks+1 }→wpAny (model X.prog X.w) X.A (f (.int i t) (.int j u)) Q E s) :
  OpR X f (rI C fun i j=>.int (g i j)):=by
 intro pins s σ H x y v u Q I rx ry h;obtain ⟨i,j,rfl,rfl,hc,q⟩:=h;obtain ⟨t,rfl⟩:=rx;obtain ⟨t',rfl⟩:=ry;exact rule i j t t' s _ _ hc ⟨.int (g i j),H,I.tok _,⟨_,rfl⟩,q⟩
theorem Wj {f:Value→Value→Sem Value} {g:Int→Int→Int}
  (rule:∀ (i j:Int) (t u:Tok) (s:Shared) (Q:Value→Shared→Prop) (E:Value→Shared→Prop),Q (.int (g i j) s.toks) { s with toks:=s.toks+1 }→wpAny (model X.prog X.w) X.A (f (.int i t) (.int j u)) Q E s) :
  OpR X f (rI0 fun i j=>.int (g i j)):=by
 intro pins s σ H x y v u Q I rx ry h;obtain ⟨i,j,rfl,rfl,q⟩:=h;obtain ⟨t,rfl⟩:=rx;obtain ⟨t',rfl⟩:=ry;exact rule i j t t' s _ _ ⟨.int (g i j),H,I.tok _,⟨_,rfl⟩,q⟩
theorem Uq {f:Value→Value→Sem Value} {g:Int→Int→Bool}
  (rule:∀ (i j:Int) (t u:Tok) (s:Shared) (Q:Value→Shared→Prop) (E:Value→Shared→Prop),Q (.bool (g i j)) s→wpAny (model X.prog X.w) X.A (f (.int i t) (.int j u)) Q E s) :
  OpR X f (rI0 fun i j=>.bl (g i j)):=by
 intro pins s σ H x y v u Q I rx ry h;obtain ⟨i,j,rfl,rfl,q⟩:=h;obtain ⟨t,rfl⟩:=rx;obtain ⟨t',rfl⟩:=ry;exact rule i j t t' s _ _ ⟨.bl (g i j),H,I,rfl,q⟩
def CDiv (i j:Int):Prop:=0 < j∧j < 1073741824
def UZ (i j:Int):Prop:=(-(2 ^ 64) < i∧i < 2 ^ 64)∨(-(2 ^ 64) < j∧j < 2 ^ 64)
theorem UZ.ok {i j:Int} (h:UZ i j):IntMulOk i j:=by
 rcases h with ⟨h1,h2⟩ | ⟨h1,h2⟩
 ·exact .of_left (intBits_le_64 h1 h2)
 ·exact .of_right (intBits_le_64 h1 h2)
theorem y8:OpR X (binaryOp .Add) (rI0 fun i j=>.int (i+j)):=Wj fun _ _ _ _ _ _ _ q=>add_int q
theorem Y4:OpR X (binaryOp .Sub) (rI0 fun i j=>.int (i - j)):=Wj fun _ _ _ _ _ _ _ q=>sub_int q
theorem vi:OpR X (binaryOp .Mult) (rI UZ fun i j=>.int (i * j)):=opI fun _ _ _ _ _ _ _ hc q=>mul_int q hc.ok
theorem XM:OpR X (binaryOp .FloorDiv) (rI CDiv fun i j=>.int (i / j)):=opI fun i j _ _ _ _ _ hc q=>by
 have h1:(0:Int) < j:=hc.1;have h2:j < 1073741824:=hc.2;exact floordiv_int (by omega) (by rw [Int.fdiv_eq_ediv_of_nonneg i (by omega)];exact q) (.inl (PyProof.noPylong_small (by omega)))
theorem vp:OpR X (binaryOp .Mod) (rI (fun _ j=>0 < j) fun i j=>.int (i % j)):=opI fun i j _ _ _ _ _ hc q=>by
 have h1:(0:Int) < j:=hc;exact mod_int' (by omega) (by rw [Int.fmod_eq_emod_of_nonneg i (by omega)];exact q)
theorem unI {f:Value→Sem Value} {g:Int→Int}
  (rule:∀ (i:Int) (t:Tok) (s:Shared) (Q:Value→Shared→Prop) (E:Value→Shared→Prop),Q (.int (g i) s.toks) { s with toks:=s.toks+1 }→wpAny (model X.prog X.w) X.A (f (.int i t)) Q E s) :
  UnR X f (rU fun i=>.int (g i)):=by
 intro pins s σ H x v Q I rx h;obtain ⟨i,rfl,q⟩:=h;obtain ⟨t,rfl⟩:=rx;exact rule i t s _ _ ⟨.int (g i),H,I.tok _,⟨_,rfl⟩,q⟩
theorem Vu:UnR X (unaryOp .USub) (rU fun i=>.int (-i)):=unI fun _ _ _ _ _ q=>neg_int q
end
def Xj:V→V→Bool
 | .non,.non=>true | .non,.int _=>true | .int _,.non=>true | .non,.bl _=>true | .bl _,.non=>true | .non,.str _=>true | .str _,.non=>true
 | .int _,.int _=>true | .bl _,.bl _=>true | .str _,.str _=>true | .byt _,.byt _=>true
 | .int _,.str _=>true | .str _,.int _=>true | .bl _,.str _=>true | .str _,.bl _=>true
 | _,_=>false
def rEq:R2:=fun x y H Q=>Xj x y=true∧Q (.bl (decide (x=y))) H
def rNe:R2:=fun x y H Q=>Xj x y=true∧Q (.bl (!decide (x=y))) H
theorem zp {i j:Int}:decide (V.int i=V.int j)=(i == j):=by
 rw [Bool.eq_iff_iff];simp
theorem Zt {i j:Bool}:decide (V.bl i=V.bl j)=(i == j):=by
 rw [Bool.eq_iff_iff];simp
theorem Yp {i j:Str}:decide (V.str i=V.str j)=(i == j):=by
 rw [Bool.eq_iff_iff];simp
theorem Yi {i j:Array UInt8}:decide (V.byt i=V.byt j)=(i.toList == j.toList):=by
 rw [Bool.eq_iff_iff];cases i;cases j;simp
section
variable {X:Cx} {a b c:Expr} {ta tb tc:TE} {pos:Pos}
theorem jy {pins:List (Addr×Obj)} {σ:St} {H:Hp} {s:Shared} {Q:VK} {k k':Bool} (I:Inv X pins σ H s) (q:Q (.bl k) H) (e:k=k'):EP X pins σ Q (.bool k') s:=by
 subst e;exact ⟨.bl k,H,I,rfl,q⟩
theorem Qe:OpR X (compareOp .Eq) rEq:=by
 intro pins s σ H x y v u Q I rx ry h;obtain ⟨hs,q⟩:=h;cases x with
 | non =>
  cases rx;cases y with
  | non=>cases ry;exact PySem.EqNone.eq_none_none (jy I q (by simp))
  | bl j=>cases ry;exact PySem.EqNone.eq_none_bool (jy I q (by simp))
  | int j=>obtain ⟨t',rfl⟩:=ry;exact PySem.EqNone.eq_none_int (jy I q (by simp))
  | str j=>obtain ⟨t',rfl⟩:=ry;exact PySem.EqNone.eq_none_str (jy I q (by simp))
  | _=>exact absurd (show false=true from hs) Bool.false_ne_true
 | bl i =>
  cases rx;cases y with
  | non=>cases ry;exact PySem.EqNone.eq_bool_none (jy I q (by simp))
  | bl j=>cases ry;exact eq_bool (jy I q Zt)
  | str j=>obtain ⟨t',rfl⟩:=ry;exact PySem.EqMixed.eq_bool_str (jy I q (by simp))
  | _=>exact absurd (show false=true from hs) Bool.false_ne_true
 | int i =>
  obtain ⟨t,rfl⟩:=rx;cases y with
  | non=>cases ry;exact PySem.EqNone.eq_int_none (jy I q (by simp))
  | int j=>obtain ⟨t',rfl⟩:=ry;exact eq_int (jy I q zp)
  | str j=>obtain ⟨t',rfl⟩:=ry;exact PySem.EqMixed.eq_int_str (jy I q (by simp))
  | _=>exact absurd (show false=true from hs) Bool.false_ne_true
 | str i =>
  obtain ⟨t,rfl⟩:=rx;cases y with
  | non=>cases ry;exact PySem.EqNone.eq_str_none (jy I q (by simp))
  | bl j=>cases ry;exact PySem.EqMixed.eq_str_bool (jy I q (by simp))
  | int j=>obtain ⟨t',rfl⟩:=ry;exact PySem.EqMixed.eq_str_int (jy I q (by simp))
  | str j=>obtain ⟨t',rfl⟩:=ry;exact eq_str (jy I q Yp)
  | _=>exact absurd (show false=true from hs) Bool.false_ne_true
 | byt i =>
  obtain ⟨t,rfl⟩:=rx;cases y with
  | byt j=>obtain ⟨t',rfl⟩:=ry;exact PySem.W.eq_bytes (jy I q Yi)
  | _=>exact absurd (show false=true from hs) Bool.false_ne_true
 | _=>cases y <;> exact absurd (show false=true from hs) Bool.false_ne_true
theorem yg:OpR X (compareOp .NotEq) rNe:=by
 intro pins s σ H x y v u Q I rx ry h;obtain ⟨hs,q⟩:=h;cases x with
 | non =>
  cases rx;cases y with
  | non=>cases ry;exact PySem.EqNone.ne_none_none (jy I q (by simp))
  | bl j=>cases ry;exact PySem.EqNone.ne_none_bool (jy I q (by simp))
  | int j=>obtain ⟨t',rfl⟩:=ry;exact PySem.EqNone.ne_none_int (jy I q (by simp))
  | str j=>obtain ⟨t',rfl⟩:=ry;exact PySem.EqNone.ne_none_str (jy I q (by simp))
  | _=>exact absurd (show false=true from hs) Bool.false_ne_true
 | bl i =>
  cases rx;cases y with
  | non=>cases ry;exact PySem.EqNone.ne_bool_none (jy I q (by simp))
  | bl j=>cases ry;exact ne_bool (jy I q (congrArg not Zt))
  | str j=>obtain ⟨t',rfl⟩:=ry;exact PySem.EqMixed.ne_bool_str (jy I q (by simp))
  | _=>exact absurd (show false=true from hs) Bool.false_ne_true
 | int i =>
  obtain ⟨t,rfl⟩:=rx;cases y with
  | non=>cases ry;exact PySem.EqNone.ne_int_none (jy I q (by simp))
  | int j=>obtain ⟨t',rfl⟩:=ry;exact ne_int (jy I q (congrArg not zp))
  | str j=>obtain ⟨t',rfl⟩:=ry;exact PySem.EqMixed.ne_int_str (jy I q (by simp))
  | _=>exact absurd (show false=true from hs) Bool.false_ne_true
 | str i =>
  obtain ⟨t,rfl⟩:=rx;cases y with
  | non=>cases ry;exact PySem.EqNone.ne_str_none (jy I q (by simp))
  | bl j=>cases ry;exact PySem.EqMixed.ne_str_bool (jy I q (by simp))
  | int j=>obtain ⟨t',rfl⟩:=ry;exact PySem.EqMixed.ne_str_int (jy I q (by simp))
  | str j=>obtain ⟨t',rfl⟩:=ry;exact ne_str (jy I q (congrArg not Yp))
  | _=>exact absurd (show false=true from hs) Bool.false_ne_true
 | byt i =>
  obtain ⟨t,rfl⟩:=rx;cases y with
  | byt j=>obtain ⟨t',rfl⟩:=ry;exact PySem.W.ne_bytes (jy I q (congrArg not Yi))
  | _=>exact absurd (show false=true from hs) Bool.false_ne_true
 | _=>cases y <;> exact absurd (show false=true from hs) Bool.false_ne_true
theorem xf:OpR X (compareOp .Lt) (rI0 fun i j=>.bl (decide (i < j))):=Uq fun _ _ _ _ _ _ _ q=>lt_int q
theorem J8:OpR X (compareOp .LtE) (rI0 fun i j=>.bl (decide (i≤j))):=Uq fun _ _ _ _ _ _ _ q=>le_int q
theorem WZ:OpR X (compareOp .Gt) (rI0 fun i j=>.bl (decide (j < i))):=Uq fun _ _ _ _ _ _ _ q=>gt_int q
theorem xb:OpR X (compareOp .Is) (fun x y H Q=>y=.non∧Q (.bl (decide (x=.non))) H):=by
 intro pins s σ H x y v u Q I rx ry h;obtain ⟨rfl,q⟩:=h;cases ry;refine is_none_gen (jy I q ?_);cases x <;> first
  | (cases rx;rfl)
  | (obtain ⟨t,rfl⟩:=rx;rfl)
theorem yc:OpR X (compareOp .IsNot) (fun x y H Q=>y=.non∧Q (.bl (!decide (x=.non))) H):=by
 intro pins s σ H x y v u Q I rx ry h;obtain ⟨rfl,q⟩:=h;cases ry;refine isnot_none_gen (jy I q ?_);cases x <;> first
  | (cases rx;rfl)
  | (obtain ⟨t,rfl⟩:=rx;rfl)
theorem je (b:Expr) {op:CmpOp} (h:op≠.In:=by decide) (h2:op≠.NotIn:=by decide):behindInMarks op b=false:=by
 have e1:(op == CmpOp.In)=false:=by cases op <;> first | rfl | exact absurd rfl h
 have e2:(op == CmpOp.NotIn)=false:=by cases op <;> first | rfl | exact absurd rfl h2
 cases b <;> simp [behindInMarks,e1,e2]
theorem vS {op:CmpOp} {r:R2} (ho:OpR X (compareOp op) r) (ha:PE X a ta) (hb:PE X b tb) (hm:behindInMarks op b=false):PE X (.Compare a [op] [b] pos) (tOp r ta tb):=by
 intro pins s σ H Q I h;exact wpAny_Compare1 (UD ha hb I h fun v u s2 x y H2 I2 rx ry q=>ho pins s2 σ H2 x y v u Q I2 rx ry q) hm
def Zv (t:TE):TT:=fun σ H Q=>t σ H fun x H'=>∃ k,x=.bl k∧Q k H'
theorem jX {op:CmpOp} {r:R2} (ho:OpR X (compareOp op) r) (ha:PE X a ta) (hb:PE X b tb) (hm:behindInMarks op b=false):PT X (.Compare a [op] [b] pos) (Zv (tOp r ta tb)):=by
 intro pins s σ H Q I h;refine wpAny_isTrue_Compare1 (thn (ha pins s σ H _ I h) fun v s1 ⟨x,H1,I1,r1,q1⟩=>thn (hb pins s1 σ H1 _ I1 q1) fun u s2 ⟨y,H2,I2,r2,q2⟩ =>
  thn (ho pins s2 σ H2 x y v u _ I2 r1 r2 q2) fun c s3 ⟨z,H3,I3,r3,k,e,q3⟩=>?_) hm
 subst e;cases r3;exact wpAny_truthy_bool ⟨H3,I3,q3⟩
def Vk (r r':R2) (ta tb tc:TE):TE:=fun σ H Q=>ta σ H fun x H1=>tb σ H1 fun y H2=>r x y H2 fun z H3=>∃ k,z=.bl k ∧
 (if k=true then tc σ H3 fun w' H4=>r' y w' H4 Q else Q (.bl false) H3)
theorem vT {op op':CmpOp} {r r':R2} (ho:OpR X (compareOp op) r) (ho':OpR X (compareOp op') r') (ha:PE X a ta) (hb:PE X b tb) (hc:PE X c tc)
  (hm:lastMarks [op,op'] [b,c]=false:=by with_unfolding_all rfl):PT X (.Compare a [op,op'] [b,c] pos) (Zv (Vk r r' ta tb tc)):=by
 intro pins s σ H Q I h;refine isTrue_chain (thn (ha pins s σ H _ I h) fun v s1 ⟨x,H1,I1,r1,q1⟩=>test_link (thn (hb pins s1 σ H1 _ I1 q1) fun u s2 ⟨y,H2,I2,r2,q2⟩ =>
  thn (ho pins s2 σ H2 x y v u _ I2 r1 r2 q2) fun d s3 ⟨z,H3,I3,r3,k,e,q3⟩=>?_)) hm
 subst e;cases r3;refine wpAny_truthy_bool ?_;cases k with
 | false =>
  obtain ⟨k',e',q'⟩:=q3;cases e';exact ite_ff ⟨H3,I3,q'⟩
 | true =>
  refine ite_tt (test_last (thn (hc pins s3 σ H3 _ I3 q3) fun w' s4 ⟨z',H4,I4,r4,q4⟩=>thn (ho' pins s4 σ H4 y z' u w' _ I4 r2 r4 q4) fun d' s5 ⟨z2,H5,I5,r5,k2,e2,q5⟩=>?_));subst e2;cases r5;exact wpAny_truthy_bool ⟨H5,I5,q5⟩
theorem JJ:(sizeLine:Nat) < 2 ^ 63:=by rw [sizeLine_eq];decide
theorem xj {x:V} {us:List Value} (r:jw [x] us):∃ u,us=[u]∧jr x u:=by
 cases r with
 | cons r1 r2=>cases r2;exact ⟨_,rfl,r1⟩
theorem wR {x y:V} {us:List Value} (r:jw [x,y] us):∃ u w',us=[u,w']∧jr x u∧jr y w':=by
 cases r with
 | cons r1 r2 =>
  cases r2 with
  | cons r3 r4=>cases r4;exact ⟨_,_,rfl,r1,r3⟩
end
end L2
namespace L2
open PySem PySem.Spec PyProof.Rows
structure YF (h:Heap) (x dx C:Addr) (mA:Str→Option Value):Prop where
 obj:h.get? x=some (PySem.W.instObj C dx)
 ns:h.Ns1 dx mA
 ne:dx≠x
theorem ZW {h:Heap} {dx:Addr} {mA:Str→Option Value} (n:h.Ns1 dx mA):∃ od,h.get? dx=some od∧∀ name,PySem.W.lookIn name od=some (mA name):=by
 obtain ⟨o,es,ep,ho,hd,hk,_,hm⟩:=n;refine ⟨o,ho,fun name=>?_⟩;have e:=hm name;unfold nsFind findBy at e;rw [← Array.find?_toList] at e;unfold PySem.W.lookIn;rw [hd];dsimp only
 split
 ·rename_i y q
  rw [q] at e;exact congrArg some e
 ·rename_i q
  rw [q] at e;have a:es.toList.any (·.refKey)=false:=by
   rw [List.any_eq_false];intro y hy;obtain ⟨z,t,hkey⟩:=hk y (Array.mem_toList_iff.mp hy);simp [DictEntry.refKey,hkey]
  have a':¬ es.toList.any (·.refKey)=true:=by rw [a];exact Bool.false_ne_true
  rw [if_neg a'];exact congrArg some e
theorem YF.look {h:Heap} {x dx C:Addr} {mA:Str→Option Value} (I:YF h x dx C mA):∃ od,PySem.W.InstAt h x (PySem.W.instObj C dx) C (some od)∧∀ name,PySem.W.lookIn name od=some (mA name) :=
 let ⟨od,ho,hl⟩:=ZW I.ns
 ⟨od,⟨I.obj,rfl,rfl,ho⟩,hl⟩
section
variable {prog:Program} {w:World} {A:Around} {E:Value→Shared→Prop} {s:Shared} {K:PySem.W.Frag} {x dx C f:Addr} {mA:Str→Option Value} {name:Str} {v:Value}
theorem Xo {expr:Bool} {Q:Value→Shared→Prop} (X:K.In s.heap) (I:YF s.heap x dx C mA) (hg:PySem.W.plainGet K C name=true) (hh:PySem.W.hasDictIn K C=true)
  (ha:PySem.W.findIn K (.ref C) name=some none) (hv:mA name=some v) (hv':PySem.W.handedIn v=true) (h:Q v { s with toks:=s.toks+1 }) :
  wpAny (model prog w) A (getAttr (.ref x) name expr) Q E s:=by
 obtain ⟨od,J,hl⟩:=I.look;exact PySem.W.get_value X J (PySem.W.plainGet_of hg).1 (PySem.W.findObj_own hh ha rfl (by rw [hl,hv])) hv' h
theorem VL {pl:Sem Bool} {Q:Value×List Value→Shared→Prop} (X:K.In s.heap) (I:YF s.heap x dx C mA) (hg:PySem.W.plainGet K C name=true)
  (hf:PySem.W.findIn K (.ref C) name=some (some (.ref f))) (ht:PySem.W.isFn K (.ref f)=true) (hv:mA name=none) (h:Q (.ref f,[.ref x]) s) :
  wpAny (model prog w) A (getMethod (.ref x) name pl) Q E s:=by
 obtain ⟨od,J,hl⟩:=I.look;exact PySem.W.method_fn X J (PySem.W.plainGet_of hg).1 (PySem.W.plainGet_of hg).2 hf (beq_iff_eq.mp ht) (by show (PySem.W.lookIn name od).map (·.isSome)=some false;rw [hl,hv];rfl) h
theorem XC {ns:List Str} {Q:Unit→Shared→Prop} (X:K.In s.heap) (I:YF s.heap x dx C mA)
  (hs:PySem.W.findIn K (.ref C) "__setattr__"=some (some (.builtin "object.__setattr__"))) (hp:PySem.W.plainOver K C=true) (ht:PySem.W.takerIn K C name=some none) (hh:PySem.W.hasDictIn K C=true)
  (hw:PySem.Within mA ns) (hsz:ns.length≤sizeLine)
  (h:∀ h',YF h' x dx C (fun y=>if y=name then some v else mA y)→Heap.SameBut dx s.heap h'→Q () { s with heap:=h',toks:=s.toks+2 }) :
  wpAny (model prog w) A (setAttr (.ref x) name v) Q E s:=by
 obtain ⟨od,J,hl⟩:=I.look;refine PySem.W.set_plain X J hs (PySem.W.osa_open (s:={ s with toks:=s.toks+1 }) (r:=none) X J hp ht fun b=>?_);obtain ⟨cd,hc,hd'⟩:=PySem.W.any_some hh;have hx:s.heap.get? x=some ⟨.ref C,some dx,.plain,#[]⟩:=I.obj;refine wpAny_bind (wpAny_pure (wpAny_bind (wpAny_bind (wpAny_loadPart hx (wpAny_bind (PySem.W.Looks.here (s:={ s with toks:=s.toks+1 }) (PySem.W.looks_clsIn X hc) ?_))))));rw [hd'];refine wpAny_pure (a:=some dx) (wpAny_bind (wpAny_pure (wpAny_bind ?_)));refine wpAny_nsSet1 (s:={ s with toks:=s.toks+1 }) I.ns fun h' hn2 hs2=>?_;obtain ⟨oD,esD,epD,hoD,hdD,hcD⟩:=hn2.count (PySem.Within.cons name v hw);refine wpAny_bind (wpAny_lookBehind hoD (by rw [hdD];exact pastItsLine_dict (Nat.le_trans hcD (by rw [List.length_cons];omega))) ?_);exact wpAny_pure (h _ ⟨(hs2.2 _ (Ne.symm I.ne)).trans I.obj,hn2,I.ne⟩ hs2)
theorem VU {R:Result→Shared→Prop} {vs:List Value} {kw:List (Str×Value)} (X:K.In s.heap) (hm:PySem.W.makesIn K C=true)
  (hi:PySem.W.findIn K (.ref C) "__init__"=some (some (.ref f))) (hf:PySem.W.typeIn K (.ref f)=some (.type "function"))
  (h:codeAny (model prog w) (A.under (.builtin "type.__call__" ⟨.ref C :: vs,kw⟩)) (.call (.ref f) ⟨.ref (s.heap.objs.size+1) :: vs,kw⟩) (PySem.W.InitBack (s.heap.objs.size+1) R)
   { s with heap:=(s.heap.push PySem.W.emptyDict).push (PySem.W.instObj C s.heap.objs.size) }) :
  codeAny (model prog w) A (.call (.ref C) ⟨vs,kw⟩) R s:=by
 obtain ⟨hh,g,d,t,os⟩:=s;exact PySem.W.make_core (PySem.W.makes_of X hm) (PySem.W.looks_findIn X hi) (fun self=>PySem.W.bind_fn X self hf) (.inl rfl) h
end
def jo (f:Str) (v:V):List (Str×V)→List (Str×V)
 | []=>[(f,v)]
 | (g,x) :: r=>if g=f then (g,v) :: r else (g,x) :: jo f v r
theorem ja (f g:Str) (v:V):∀ fs:List (Str×V),(jo f v fs).lookup g=if g=f then some v else fs.lookup g
 | []=>by
  show List.lookup g [(f,v)]=_
  by_cases h:g=f
  ·have hb:(g == f)=true:=beq_iff_eq.mpr h;simp only [List.lookup,hb,if_pos h]
  ·have hb:(g == f)=false:=beq_eq_false_iff_ne.mpr h;simp only [List.lookup,hb,if_neg h]
 | (k,x) :: r=>by
  have ih:=ja f g v r;rw [show jo f v ((k,x) :: r)=(if k=f then (k,v) :: r else (k,x) :: jo f v r) from rfl]
  by_cases hk:k=f
  ·rw [if_pos hk]
   by_cases h:g=k
   ·have hb:(g == k)=true:=beq_iff_eq.mpr h;simp only [List.lookup,hb,if_pos (h.trans hk)]
   ·have hb:(g == k)=false:=beq_eq_false_iff_ne.mpr h;simp only [List.lookup,hb,if_neg (fun e:g=f=>h (e.trans hk.symm))]
  ·rw [if_neg hk]
   by_cases h:g=k
   ·have hb:(g == k)=true:=beq_iff_eq.mpr h;simp only [List.lookup,hb,if_neg (fun e:g=f=>hk (h.symm.trans e))]
   ·have hb:(g == k)=false:=beq_eq_false_iff_ne.mpr h;simp only [List.lookup,hb];exact ih
theorem va (f:Str) (v:V):∀ fs:List (Str×V),f∈(jo f v fs).map (·.1)∧∀ g,g∈fs.map (·.1)→g∈(jo f v fs).map (·.1)
 | []=>⟨by simp [jo],fun g h=>by simp at h⟩
 | (k,x) :: r=>by
  obtain ⟨i1,i2⟩:=va f v r;rw [show jo f v ((k,x) :: r)=(if k=f then (k,v) :: r else (k,x) :: jo f v r) from rfl]
  by_cases hk:k=f
  ·rw [if_pos hk];subst hk;exact ⟨by simp,fun g h=>by simpa using h⟩
  ·rw [if_neg hk];refine ⟨?_,fun g h=>?_⟩
   ·rw [List.map_cons];exact List.mem_cons_of_mem _ i1
   ·rw [List.map_cons] at h ⊢;rcases List.mem_cons.mp h with e | e
    ·exact List.mem_cons.mpr (.inl e)
    ·exact List.mem_cons_of_mem _ (i2 g e)
theorem yJ (f:Str) (v:V):∀ fs:List (Str×V),(jo f v fs).length≤fs.length+1
 | []=>by simp [jo]
 | (k,x) :: r=>by
  have ih:=yJ f v r;rw [show jo f v ((k,x) :: r)=(if k=f then (k,v) :: r else (k,x) :: jo f v r) from rfl]
  by_cases hk:k=f
  ·rw [if_pos hk,List.length_cons,List.length_cons];omega
  ·rw [if_neg hk,List.length_cons,List.length_cons];omega
theorem zF.some_of {v:V} {o:Option Value} (r:zF (some v) o):∃ u,o=some u∧jr v u:=by
 cases o with
 | none=>exact (show False from r).elim
 | some u=>exact ⟨u,rfl,r⟩
theorem zF.none_of {o:Option Value} (r:zF none o):o=none:=by
 cases o with
 | none=>rfl
 | some u=>exact (show False from r).elim
theorem Z8 {v:V} {u:Value} (r:jr v u):PySem.W.handedIn u=true:=by
 cases v with
 | non=>cases (show u=Value.none from r);rfl
 | bl b=>cases (show u=Value.bool b from r);rfl
 | int i=>obtain ⟨t,e⟩:=(show ∃ t,u=Value.int i t from r);cases e;rfl
 | str x=>obtain ⟨t,e⟩:=(show ∃ t,u=Value.str x t from r);cases e;rfl
 | byt b=>obtain ⟨t,e⟩:=(show ∃ t,u=Value.bytes b t from r);cases e;rfl
 | flt b=>obtain ⟨t,e⟩:=(show ∃ t,u=Value.float b t from r);cases e;rfl
 | ref a=>cases (show u=Value.ref a from r);rfl
 | ty n=>cases (show u=Value.type n from r);rfl
section
variable {P:Program} {w:World} {H H':Hp} {h h':Heap} {a C dx:Addr} {fs fs':List (Str×V)}
theorem xJ (hok:HOk P w H h) (e:H a=some (.ins C dx fs)):∃ mA,YF h a dx C mA∧(∀ f,zF (fs.lookup f) (mA f))∧PySem.Within mA (fs.map (·.1))∧fs.length≤1000∧H dx=some (.own a):=by
 obtain ⟨d,z,ne,ob,mA,n,r,q⟩:=(show qM P w H h a (.ins C dx fs) from hok a _ e);exact ⟨mA,⟨ob,n,ne⟩,r,q,z,d⟩
end
structure Cls (K:PySem.W.Frag) (C:Addr):Prop where
 pg:PySem.W.plainGet K C Str.empty=true
 hd:PySem.W.hasDictIn K C=true
 po:PySem.W.plainOver K C=true
 sa:PySem.W.findIn K (.ref C) "__setattr__"=some (some (.builtin "object.__setattr__"))
theorem Cls.get {K:PySem.W.Frag} {C:Addr} (c:Cls K C) (f:Str):PySem.W.plainGet K C f=true:=c.pg
def qW (K:PySem.W.Frag) (C:Addr) (f:Str):Prop:=PySem.W.findIn K (.ref C) f=some none
theorem qW.taker {K:PySem.W.Frag} {C:Addr} {f:Str} (n:qW K C f):PySem.W.takerIn K C f=some none:=by
 unfold PySem.W.takerIn;rw [show PySem.W.findIn K (.ref C) f=some none from n];rfl
structure zJ (K:PySem.W.Frag) (C:Addr) (m:Str) (f:Addr):Prop where
 at_:PySem.W.findIn K (.ref C) m=some (some (.ref f))
 fn:PySem.W.isFn K (.ref f)=true
 kp:PySem.W.keepIn K (.ref f)=true
section
variable {X:Cx} {pins:List (Addr×Obj)} {σ:St} {H:Hp} {s:Shared} {a C dx:Addr} {fs:List (Str×V)} {f:Str} {v:V} {A:Around} {E:Value→Shared→Prop}
theorem kF {b:Bool} {Q:Value→Shared→Prop} (I:Inv X pins σ H s) (e:H a=some (.ins C dx fs)) (c:Cls X.K C) (n:qW X.K C f) (l:fs.lookup f=some v)
  (h:∀ u s',Inv X pins σ H s'→jr v u→Q u s'):wpAny (model X.prog X.w) A (getAttr (.ref a) f b) Q E s:=by
 obtain ⟨mA,O,r,_,_,_⟩:=xJ I.hok e;obtain ⟨u,hu,ru⟩:=zF.some_of (v:=v) (o:=mA f) (by rw [← l];exact r f);exact Xo I.kIn O (c.get f) c.hd n hu (Z8 ru) (h u _ (I.tok _) ru)
theorem xP {m:Str} {g:Addr} {pl:Sem Bool} {Q:Value×List Value→Shared→Prop} (I:Inv X pins σ H s) (e:H a=some (.ins C dx fs)) (c:Cls X.K C) (k:zJ X.K C m g) (l:fs.lookup m=none)
  (h:Q (.ref g,[.ref a]) s):wpAny (model X.prog X.w) A (getMethod (.ref a) m pl) Q E s:=by
 obtain ⟨mA,O,r,_,_,_⟩:=xJ I.hok e;have hn:mA m=none:=zF.none_of (by rw [← l];exact r m);exact VL I.kIn O (c.get m) k.at_ k.fn hn h
theorem xa {y:V} {u:Value} {Q:Unit→Shared→Prop} (I:Inv X pins σ H s) (e:H a=some (.ins C dx fs)) (c:Cls X.K C) (n:qW X.K C f) (hl:fs.length < 1000) (ry:jr y u)
  (h:∀ s',Inv X pins σ (upd H a (.ins C dx (jo f y fs))) s'→Q () s'):wpAny (model X.prog X.w) A (setAttr (.ref a) f u) Q E s:=by
 obtain ⟨mA,O,r,wi,_,ho⟩:=xJ I.hok e;have hz:(fs.map (·.1)).length≤sizeLine:=by rw [List.length_map,sizeLine_eq];omega
 refine XC I.kIn O c.sa c.po n.taker c.hd wi hz fun h' O' sb=>h _ ?_;have hd:∃ o,h'.get? dx=some o:=let ⟨o,_,_,e',_⟩:=O'.ns;⟨o,e'⟩;refine I.write (x:=a) (e:=dx) (by rw [e];exact True.intro) (.inr ho) (fun b q hb z=>(sb.2 b hb).trans z) hd ?_;refine ⟨by rw [j5 O.ne];exact ho,?_,O.ne,O'.obj,_,O'.ns,fun g=>?_,fun g hg=>?_⟩
 ·have:=yJ f y fs;omega
 ·show zF ((jo f y fs).lookup g) (if g=f then some u else mA g);rw [ja]
  by_cases q:g=f
  ·rw [if_pos q,if_pos q];exact ry
  ·rw [if_neg q,if_neg q];exact r g
 ·by_cases q:g=f
  ·rw [q];exact (va f y fs).1
  ·refine (va f y fs).2 g (wi g fun z=>hg ?_);show (if g=f then some u else mA g)=none;rw [if_neg q];exact z
theorem Inv.made (I:Inv X pins σ H s):Inv X pins σ (upd (upd H s.heap.objs.size (.own (s.heap.objs.size+1))) (s.heap.objs.size+1) (.ins C s.heap.objs.size []))
  { s with heap:=(s.heap.push PySem.W.emptyDict).push (PySem.W.instObj C s.heap.objs.size) }:=by
 have e1:(s.heap.push PySem.W.emptyDict).get? s.heap.objs.size=some PySem.W.emptyDict:=Heap.get?_push_size s.heap rfl;have e2:((s.heap.push PySem.W.emptyDict).push (PySem.W.instObj C s.heap.objs.size)).get? (s.heap.objs.size+1)=some (PySem.W.instObj C s.heap.objs.size):=by
  have:=Heap.get?_push_size (s.heap.push PySem.W.emptyDict) (o:=PySem.W.instObj C s.heap.objs.size) rfl
  rwa [Heap.size_push] at this
 have e3:(s.heap.push PySem.W.emptyDict).Ns s.heap.objs.size (fun _=>none):=⟨PySem.W.emptyDict,#[],_,e1,rfl,(fun e he=>absurd he (by simp)),fun _=>rfl⟩;have I1:=I.laid (a:=s.heap.objs.size) (o:=.own (s.heap.objs.size+1)) (h':=s.heap.push PySem.W.emptyDict) (t':=s.toks) (fun b u q=>Heap.get?_push_of_some _ q) (Nat.le_refl _) ⟨_,e1⟩;refine I1.laid (a:=s.heap.objs.size+1) (o:=.ins C s.heap.objs.size []) (t':=s.toks) (fun b u q=>Heap.get?_push_of_some _ q) (Nat.le_of_eq (Heap.size_push _ _)) ?_;have ne:s.heap.objs.size≠s.heap.objs.size+1:=Nat.ne_of_lt (Nat.lt_succ_self _);refine ⟨by rw [j5 ne,j1],Nat.zero_le _,ne,e2,fun _=>none,(Heap.Ns1.of_empty e3).at fun o q=>Heap.get?_push_of_some _ q,fun _=>True.intro,fun y hy=>absurd rfl hy⟩
theorem X7 {prog:Program} {w:World} {env:Env} {e:Expr} {f:Str} {pos:Pos} {s:Shared} {Q:Value→Shared→Prop} (hb:attributeBase e f env (eval e env)=eval e env)
  (h:wpAny (model prog w) A (eval e env) (fun o s₁=>wpAny (model prog w) A (getAttr o f true) Q E s₁) E s):wpAny (model prog w) A (eval (.Attribute e f pos) env) Q E s :=
 Attribute_any_ h (by rw [arm_eval_Attribute,hb])
end
def UW (K:PySem.W.Frag) (ta:TE) (f:Str):TE:=fun σ H Q=>ta σ H fun x H1=>∃ a C dx fs v,x=.ref a∧H1 a=some (.ins C dx fs)∧Cls K C∧qW K C f∧fs.lookup f=some v∧Q v H1
def Km (K:PySem.W.Frag) (ta tv:TE) (f:Str):TS:=fun D σ H=>tv σ H fun y H1=>ta σ H1 fun x H2=>∃ a C dx fs,x=.ref a∧H2 a=some (.ins C dx fs)∧Cls K C∧qW K C f∧fs.length < 1000 ∧
 D.nx σ (upd H2 a (.ins C dx (jo f y fs)))
def Ug (X:Cx) (op:Operator) (rd:V→V→Hp→VK→Prop):Prop :=
 ∀ (pins:List (Addr×Obj)) (s:Shared) (σ:St) (H:Hp) (x y:V) (u v:Value) (Q:VK),Inv X pins σ H s→jr x u→jr y v→rd x y H Q→wpAny (model X.prog X.w) X.A (inplaceOp op u v) (EP X pins σ Q) X.xe s
def Jv (K:PySem.W.Frag) (ta tv:TE) (rd:V→V→Hp→VK→Prop) (f:Str):TS:=fun D σ H=>ta σ H fun x H1=>∃ a C dx fs v,x=.ref a∧H1 a=some (.ins C dx fs)∧Cls K C∧qW K C f∧fs.lookup f=some v ∧
 tv σ H1 fun y H2=>rd v y H2 fun z H3=>∃ dx' fs',H3 a=some (.ins C dx' fs')∧fs'.length < 1000∧D.nx σ (upd H3 a (.ins C dx' (jo f z fs')))
section
variable {X:Cx} {o e value:Expr} {f:Str} {pos pos' tpos:Pos} {ta tv:TE}
theorem Ks (he:PE X e ta) (hb:attributeBase e f X.env (eval e X.env)=eval e X.env):PE X (.Attribute e f pos) (UW X.K ta f):=by
 intro pins s σ H Q I h;refine X7 hb (thn (he pins s σ H _ I h) fun u s1 ⟨x,H1,I1,rx,a,C,dx,fs,v,ex,ea,c,n,l,q⟩=>?_);subst ex;obtain rfl:u=Value.ref a:=rx;exact kF I1 ea c n l fun u' s2 I2 ru=>⟨v,H1,I2,ru,q⟩
theorem Um (ha:PE X o ta) (hv:PE X value tv) (hs:swapsWith value (some (.Attribute o f pos')) pos.line X.env=pure false):PS X (.Assign [.Attribute o f pos'] value pos) (Km X.K ta tv f):=by
 intro pins s σ H D I h;refine plainObj_wpAny_Assign_Attribute (thn (hv pins s σ H _ I h) fun u s1 ⟨y,H1,I1,ry,q⟩=>thn (ha pins s1 σ H1 _ I1 q) fun ov s2 ⟨x,H2,I2,rx,a,C,dx,fs,ex,ea,c,n,l,q2⟩=>?_) hs;subst ex;obtain rfl:ov=Value.ref a:=rx;exact xa I2 ea c n l ry fun s3 I3=>⟨σ,_,I3,q2⟩
theorem ZA {op:Operator} {rd:V→V→Hp→VK→Prop} (ha:PE X o ta) (hv:PE X value tv) (hop:Ug X op rd):PS X (.AugAssign (.Attribute o f tpos) op value pos) (Jv X.K ta tv rd f):=by
 intro pins s σ H D I h;refine wpAny_AugAssign_AttributeAny (thn (ha pins s σ H _ I h) fun ov s1 ⟨x,H1,I1,rx,a,C,dx,fs,v,ex,ea,c,n,l,q⟩=>?_);subst ex;obtain rfl:ov=Value.ref a:=rx;refine kF I1 ea c n l fun u s2 I2 ru=>thn (hv pins s2 σ H1 _ I2 q) fun w3 s3 ⟨y,H2,I3,ry,q3⟩=>thn (hop pins s3 σ H2 v y u w3 _ I3 ru ry q3) fun w4 s4 ⟨z,H3,I4,rz,dx',fs',ea',l',q4⟩=>?_;exact xa I4 ea' c n l' rz fun s5 I5=>⟨σ,_,I5,q4⟩
def j12:V→V→Hp→VK→Prop:=fun x y H Q=>∃ i j,x=.int i∧y=.int j∧Q (.int (i+j)) H
theorem U7:Ug X .Add j12:=by
 rintro pins s σ H x y u v Q I rx ry ⟨i,j,rfl,rfl,q⟩
 obtain ⟨t,rfl⟩:=(show ∃ t,u=Value.int i t from rx);obtain ⟨t',rfl⟩:=(show ∃ t',v=Value.int j t' from ry);exact PyProof.Rows.iadd_int ⟨.int (i+j),H,I.tok _,⟨_,rfl⟩,q⟩
end
section
variable {X:Cx} {pins:List (Addr×Obj)} {σ:St} {H:Hp} {s:Shared} {A:Around} {E:Value→Shared→Prop} {Q:Value→Shared→Prop} {c:Value} {b:Bool}
inductive vM (K:PySem.W.Frag) (H:Hp):V→Value→Prop where
 | non:vM K H .non (.type "NoneType")
 | bl (x:Bool):vM K H (.bl x) (.type "bool")
 | int (i:Int):vM K H (.int i) (.type "int")
 | str (x:Str):vM K H (.str x) (.type "str")
 | flt (x:UInt64):vM K H (.flt x) (.type "float")
 | lst {a:Addr} {xs:List V} (e:H a=some (.lst xs)):vM K H (.ref a) (.type "list")
 | frz {a:Addr} {o:Obj} {xs:List V} (e:H a=some (.frz o (.lst xs))):vM K H (.ref a) (.type "list")
 | tup {a:Addr} {xs:List V} (e:H a=some (.tup xs)):vM K H (.ref a) (.type "tuple")
 | dK {a:Addr} {kvs:List (Key×V)} (e:H a=some (.dK kvs)):vM K H (.ref a) (.type "dict")
 | dT {a:Addr} {kvs:List (List Key×V)} (e:H a=some (.dT kvs)):vM K H (.ref a) (.type "dict")
 | ins {a C dx:Addr} {fs:List (Str×V)} (e:H a=some (.ins C dx fs)) (cl:Cls K C) (ha:PySem.W.findIn K (.ref C) "__class__"=some (some (.builtin "object.__class__")))
   (hn:PySem.W.specialIn K (.builtin "object.__class__") "__get__"=some (some (.builtin "getset_descriptor.__get__"))) (htk:PySem.W.takesIn K (.builtin "object.__class__")=some true)
   (hm:PySem.W.mroIn K C (.type "object")=some true):vM K H (.ref a) (.ref C)
theorem ZM {x:V} {u t:Value} (I:Inv X pins σ H s) (rx:jr x u) (ty:vM X.K H x t) (e:PySem.W.kitOne X.K t c=some b) (h:∀ tk,Q (.bool b) { s with toks:=tk }) :
  wpAny (model X.prog X.w) A (call (.builtin "isinstance") [u,c]) Q E s:=by
 cases ty with
 | non=>cases (show u=Value.none from rx);exact PySem.W.kia_one PySem.W.kitx_none I.kIn True.intro e (fun z=>nomatch z) h
 | bl y=>cases (show u=Value.bool y from rx);exact PySem.W.kia_one PySem.W.kitx_bool I.kIn True.intro e (fun z=>nomatch z) h
 | int i=>obtain ⟨t,q⟩:=(show ∃ t,u=Value.int i t from rx);cases q;exact PySem.W.kia_one PySem.W.kitx_int I.kIn True.intro e (fun z=>nomatch z) h
 | str y=>obtain ⟨t,q⟩:=(show ∃ t,u=Value.str y t from rx);cases q;exact PySem.W.kia_one PySem.W.kitx_str I.kIn True.intro e (fun z=>nomatch z) h
 | flt y=>obtain ⟨t,q⟩:=(show ∃ t,u=Value.float y t from rx);cases q;exact PySem.W.kia_one PySem.W.kitx_float I.kIn True.intro e (fun z=>nomatch z) h
 | @lst a xs ea =>
  cases (show u=Value.ref a from rx);obtain ⟨_,_,n,_,h1⟩:=(show qM X.prog X.w H s.heap a (.lst xs) from I.hok a _ ea);exact PySem.W.kia_one PySem.W.kitx_list I.kIn ⟨_,h1,rfl⟩ e (fun z=>nomatch z) h
 | @frz a ob xs ea =>
  cases (show u=Value.ref a from rx);obtain ⟨_,_,_,n,_,h1⟩:=(show qM X.prog X.w H s.heap a (.frz ob (.lst xs)) from I.hok a _ ea);exact PySem.W.kia_one PySem.W.kitx_list I.kIn ⟨_,h1,rfl⟩ e (fun z=>nomatch z) h
 | @tup a xs ea =>
  cases (show u=Value.ref a from rx);obtain ⟨_,_,_,p⟩:=(show qM X.prog X.w H s.heap a (.tup xs) from I.hok a _ ea);obtain ⟨o,h1,h2,_⟩:=p;exact PySem.W.kia_one PySem.W.kitx_tuple I.kIn ⟨o,h1,h2⟩ e (fun z=>nomatch z) h
 | @dK a kvs ea =>
  cases (show u=Value.ref a from rx);obtain ⟨_,_,vs,_,p⟩:=(show qM X.prog X.w H s.heap a (.dK kvs) from I.hok a _ ea);obtain ⟨o,es,ep,h1,h2,_⟩:=p;exact PySem.W.kia_one PySem.W.kitx_dict I.kIn ⟨o,h1,h2.1⟩ e (fun z=>nomatch z) h
 | @dT a kvs ea =>
  cases (show u=Value.ref a from rx);obtain ⟨_,_,xs,_,o,es,ep,h1,h2,_⟩:=(show qM X.prog X.w H s.heap a (.dT kvs) from I.hok a _ ea);exact PySem.W.kia_one PySem.W.kitx_dict I.kIn ⟨o,h1,h2.1⟩ e (fun z=>nomatch z) h
 | @ins a C dx fs ea cl ha hn htk hm =>
  cases (show u=Value.ref a from rx);obtain ⟨mA,O,_⟩:=xJ I.hok ea;obtain ⟨od,J,_⟩:=O.look;exact PySem.W.kia_one (PySem.W.kitx_own (cl.get _) cl.hd ha hn htk hm) I.kIn J e (fun z=>nomatch z) h
end
end L2
namespace L2
open PySem PySem.Spec PyProof.Rows
structure yB (k:Nat) (A:Around):Prop where
 hd:A.handled=none
 dp:A.depth+3 * k+5 < recursionLimit
 un:A.units+16 * k+200 < cLine
theorem yB.mono {j k:Nat} {A:Around} (r:yB k A) (h:j≤k):yB j A:=⟨r.hd,by have:=r.dp;omega,by have:=r.un;omega⟩
theorem yB.deeper {k:Nat} {A:Around} (r:yB (k+1) A) (env:Env):yB k (A.deeper env) :=
 ⟨r.hd,by have:=r.dp;show A.depth+1+3 * k+5 < _;omega,by have:=r.un;show A.units+3+16 * k+200 < _;omega⟩
theorem Y5 {A:Around} {C:Addr} {us:List Value} {kw:List (Str×Value)}:(A.under (.builtin "type.__call__" ⟨.ref C :: us,kw⟩)).depth=A.depth+1:=by
 first | rfl | simp [Around.under,Code.weight,Code.isCreation,Code.isGuard,Code.isCaller,Code.frames,Code.isFrame,guardIds]
theorem YE {A:Around} {C:Addr} {us:List Value} {kw:List (Str×Value)}:(A.under (.builtin "type.__call__" ⟨.ref C :: us,kw⟩)).units=A.units+1:=by
 first | rfl | simp [Around.under,Code.cUnits,Code.frames,Code.isFrame]
theorem yB.make {k:Nat} {A:Around} (r:yB (k+1) A) (C:Addr) (us:List Value) (kw:List (Str×Value)):yB k (A.under (.builtin "type.__call__" ⟨.ref C :: us,kw⟩)) :=
 ⟨r.hd,by have:=r.dp;rw [Y5];omega,by have:=r.un;rw [YE];omega⟩
theorem yB.depth {k:Nat} {A:Around} (r:yB k A):A.depth < recursionLimit:=by have:=r.dp;omega
theorem yB.units {k:Nat} {A:Around} (r:yB k A):A.units+64 < cLine:=by have:=r.un;omega
def XU:TA:=fun _ H Q=>Q [] H
def VW (ta:TE) (tr:TA):TA:=fun σ H Q=>ta σ H fun x H1=>tr σ H1 fun xs H2=>Q (x :: xs) H2
section
variable {X:Cx} {e:Expr} {es:List Expr} {te:TE} {t:TA} {pos:Pos}
theorem j4:PA X [] XU:=fun _ _ _ _ H Q I h=>Calls.spliced_nil ⟨[],H,I,.nil,h⟩
theorem j0 (ha:PE X e te) (hr:PA X es t) (hs:starEach (e :: es) X.env=(false,eval e X.env) :: starEach es X.env:=by rfl):PA X (e :: es) (VW te t):=by
 intro pos pins s σ H Q I h;rw [hs];show wpAny _ _ (spliced ((false,eval e X.env) :: backTo pos (starEach es X.env))) _ _ s;refine Calls.spliced_cons (thn (ha pins s σ H _ I h) fun u s1 ⟨x,H1,I1,r1,q1⟩=>?_);exact thn (hr pos pins s1 σ H1 _ I1 q1) fun us s2 ⟨xs,H2,I2,r2,q2⟩=>⟨x :: xs,H2,I2,.cons r1 r2,q2⟩
def wE (t:TA):TE:=fun σ H Q=>t σ H fun xs H1=>xs.length≤sizeLine∧∀ p,H1 p=none→Q (.ref p) (upd H1 p (.tup xs))
def wu (t:TA):TE:=fun σ H Q=>t σ H fun xs H1=>xs.length≤sizeLine∧∀ p,H1 p=none→Q (.ref p) (upd H1 p (.lst xs))
theorem vW {x1} (h:PA X es t):PE X (.Tuple es x1 pos) (wE t):=by
 intro pins s σ H Q I hq;refine wpAny_Tuple_spliced (thn (h pos pins s σ H _ I hq) fun us s1 ⟨xs,H1,I1,r,z,q⟩=>⟨by rw [← r.length];exact z,?_⟩);have hf:H1 s1.heap.objs.size=none:=I1.hok.fresh (Nat.le_refl _);refine ⟨.ref s1.heap.objs.size,upd H1 s1.heap.objs.size (.tup xs),I1.laid (t':=s1.toks) (fun b u e=>Heap.get?_push_of_some _ e) (Nat.le_refl _) ?_,rfl,q _ hf⟩;exact ⟨z,us,r,⟨_,Heap.get?_push_size _ rfl,rfl,_,rfl⟩⟩
theorem jg (h:PA X es t):PE X (.List es pos) (wu t):=by
 intro pins s σ H Q I hq;refine wpAny_List_spliced (thn (h pos pins s σ H _ I hq) fun us s1 ⟨xs,H1,I1,r,z,q⟩=>⟨by rw [← r.length];exact z,?_⟩);have hf:H1 s1.heap.objs.size=none:=I1.hok.fresh (Nat.le_refl _);refine ⟨.ref s1.heap.objs.size,upd H1 s1.heap.objs.size (.lst xs),I1.laid (t':=s1.toks) (fun b u e=>Heap.get?_push_of_some _ e) (Nat.le_refl _) ?_,rfl,q _ hf⟩;exact ⟨z,us,0,r,Heap.get?_push_size _ rfl⟩
end
abbrev Sp:=List V→Hp→VK→XK→Prop
abbrev CXT:=List Env→Hp→Shared→XK→Value→Shared→Prop
structure YS (P:Program) (w:World) (K:PySem.W.Frag) (mg:Str→Option Value) (base:Heap) (A:Around) (outer:List Env) (s:Shared) (H:Hp):Prop where
 frames:A.frames=some outer
 mod:Mod K mg base
 bs:∀ b o,base.get? b=some o→s.heap.get? b=some o∧H b=none
 bsz:base.objs.size≤s.heap.objs.size
 funs:s.heap.FunFrames base outer
 frf:∀ b∈frs outer,H b=none
 hok:HOk P w H s.heap
 bare:AllBare s.gens
def CE (outer:List Env) (P:Program) (w:World) (H:Hp) (s:Shared) (Q:VK) (u:Value) (s':Shared):Prop :=
 ∃ v H',s'.os=s.os∧AllBare s'.gens∧Un (frs outer) [] H H' s.heap s'.heap∧HOk P w H' s'.heap∧jr v u∧Q v H'
def CR (CX:CXT) (outer:List Env) (P:Program) (w:World) (H:Hp) (s:Shared) (Q:VK) (E:XK) (r:Result) (s':Shared):Prop :=
 match r with
 | .ok (.ret u)=>CE outer P w H s Q u s'
 | .ok _=>False
 | .error e=>CX outer H s E e s'
structure qE (P:Program) (w:World) (K:PySem.W.Frag) (mg:Str→Option Value) (base:Heap) (CX:CXT) (k:Nat) (f:Addr) (fd:FuncData) (ps:List Str) (sp:Sp):Prop where
 len:∀ vs H Q E,sp vs H Q E→vs.length=ps.length
 run:∀ (A:Around) (outer:List Env) (s:Shared) (H:Hp) (args:Args) (us:List Value) (vs:List V) (Q:VK) (E:XK),yB k A→YS P w K mg base A outer s H→BindsTo s fd args (ps.zip us)→jw vs us→sp vs H Q E →
  codeAny (model P w) A (.call (.ref f) args) (CR CX outer P w H s Q E) s
theorem YS.make {P:Program} {w:World} {K:PySem.W.Frag} {mg:Str→Option Value} {base:Heap} {A:Around} {outer:List Env} {s:Shared} {H:Hp} (e:YS P w K mg base A outer s H) (C:Addr) (us:List Value) (kw:List (Str×Value)) :
  YS P w K mg base (A.under (.builtin "type.__call__" ⟨.ref C :: us,kw⟩)) outer s H:=⟨by first | exact e.frames | (simpa [Around.under,Code.envs,Code.isFrame,pushEnvs] using e.frames),e.mod,e.bs,e.bsz,e.funs,e.frf,e.hok,e.bare⟩
section
variable {X:Cx} {pins:List (Addr×Obj)} {σ:St} {H:Hp} {s s':Shared}
theorem Inv.env0 (I:Inv X pins σ H s):YS X.prog X.w X.K X.mg X.base X.A X.stack s H :=
 ⟨I.ok.frames,I.ok.mod,I.bs,Nat.le_trans I.ok.bsz I.sz,I.stack,I.stkFree,I.hok,I.bare⟩
theorem Inv.after {Q:VK} {u:Value} (I:Inv X pins σ H s) (h:CE X.stack X.prog X.w H s Q u s'):EP X pins σ Q u s':=by
 obtain ⟨v,H',os,bare,un,hok,r,q⟩:=h;obtain ⟨hh,g,d,t,os'⟩:=s';obtain rfl:os'=s.os:=os;exact ⟨v,H',I.call (h':=hh) (g':=g) (d':=d) (t':=t) (ch:=[]) un hok bare (fun b z=>absurd z (by simp)),r,q⟩
end
def KH (sp:Sp) (dvs:List V) (E:XK) (t:TA):TE:=fun σ H Q=>t σ H fun vs H1=>sp (vs++dvs) H1 Q E
def V5 (C:Addr) (m:Str) (sp:Sp) (dvs:List V) (E:XK) (ta:TE) (t:TA):TE:=fun σ H Q=>ta σ H fun x H1=>∃ a dx fs,x=.ref a∧H1 a=some (.ins C dx fs)∧fs.lookup m=none ∧
 t σ H1 fun vs H2=>sp (x :: (vs++dvs)) H2 Q E
def Kh (C:Addr) (sp:Sp) (dvs:List V) (E:XK) (t:TA):TE:=fun σ H Q=>t σ H fun vs H1=>∀ x dx,H1 x=none→H1 dx=none→dx≠x →
 sp (.ref x :: (vs++dvs)) (upd (upd H1 dx (.own x)) x (.ins C dx [])) (fun v H2=>v=.non∧Q (.ref x) H2) E
def jd (K:PySem.W.Frag) (fd:FuncData) (ps:List Str) (ds:List Value):Prop :=
 ∀ (s:Shared) (us:List Value),K.In s.heap→(us++ds).length=ps.length→BindsTo s fd ⟨us,[]⟩ (ps.zip (us++ds))
theorem jd.all {K:PySem.W.Frag} {fd:FuncData} {ps:List Str} (h:∀ us:List Value,us.length=ps.length→bindArgs fd ⟨us,[]⟩=pure (ps.zip us)):jd K fd ps []:=fun s us _ hl=>by
 rw [List.append_nil] at hl ⊢;exact .of_eq (h us hl)
def zU (CX:CXT) (X:Cx) (E:XK):Prop:=∀ (pins:List (Addr×Obj)) (σ:St) (H:Hp) (s:Shared) (e:Value) (s':Shared),Inv X pins σ H s→CX X.stack H s E e s'→X.xe e s'
section
variable {X:Cx} {CX:CXT} {k:Nat} {f C:Addr} {fd:FuncData} {ps:List Str} {sp:Sp} {dvs:List V} {ds:List Value} {E:XK} {x m:Str} {p pos apos:Pos} {e o:Expr} {es:List Expr} {ta:TE} {t:TA}
theorem YR {pins:List (Addr×Obj)} {σ:St} {H:Hp} {s:Shared} {Q:VK} {us:List Value} {vs:List V} (F:qE X.prog X.w X.K X.mg X.base CX k f fd ps sp) (hr:yB k X.A) (hb:jd X.K fd ps ds) (hd:jw dvs ds) (hx:zU CX X E)
  (I:Inv X pins σ H s) (r:jw vs us) (h:sp (vs++dvs) H Q E):wpAny (model X.prog X.w) X.A (call (.ref f) us) (EP X pins σ Q) X.xe s:=by
 have r2:jw (vs++dvs) (us++ds):=r.append hd;have hl:(us++ds).length=ps.length:=by rw [← r2.length];exact F.len _ _ _ _ h
 refine wpAny_call (codeAny_mono (F.run X.A X.stack s H ⟨us,[]⟩ (us++ds) (vs++dvs) Q E hr I.env0 (hb s us I.kIn hl) r2 h) fun r s' hq=>?_);cases r with
 | error e=>exact hx pins σ H s e s' I hq
 | ok fl =>
  cases fl with
  | ret u=>exact I.after hq
  | next=>exact False.elim hq
  | brk=>exact False.elim hq
  | cont=>exact False.elim hq
theorem jK (F:qE X.prog X.w X.K X.mg X.base CX k f fd ps sp) (hr:yB k X.A) (hg:Gl X x) (hm:X.mg x=some (.ref f)) (hk:PySem.W.keepIn X.K (.ref f)=true) (hb:jd X.K fd ps ds) (hd:jw dvs ds) (hx:zU CX X E)
  (ha:PA X (e :: es) t) (hdb:(x == ("__debug__":Str))=false:=by decide) (he:starEach (e :: es) X.env=(false,eval e X.env) :: starEach es X.env:=by rfl) (hpl:(backTo pos (starEach es X.env)).any (·.1)=false:=by rfl) :
  PE X (.Call (.Name x p) (e :: es) [] pos) (KH sp dvs E t):=by
 intro pins s σ H Q I h;refine wpAny_Call_Name_kw (xH I hg hm ?_ hdb);refine PySem.W.callWith_K (h₀:=X.base) I.ok.mod.kin hk (thn (ha pos pins s σ H _ I h) fun us s1 ⟨vs,H1,I1,r,q⟩=>⟨I1.kIn,?_⟩) he hpl;exact YR F hr hb hd hx I1 r q
theorem qY {pl:Sem Bool} (he:PE X o ta) (c:Cls X.K C) (hm:zJ X.K C m f) (F:qE X.prog X.w X.K X.mg X.base CX k f fd ps sp) (hr:yB k X.A) (hb:jd X.K fd ps ds) (hd:jw dvs ds) (hx:zU CX X E) (ha:PA X (e :: es) t)
  (hst:starEach (e :: es) X.env=(false,eval e X.env) :: starEach es X.env:=by rfl) (hpl:(backTo pos (starEach es X.env)).any (·.1)=false:=by rfl)
  (ht:eval (.Call (.Attribute o m apos) (e :: es) [] pos) X.env=(do
   let ov ← eval o X.env
   standAt apos.atName
   let (f,first) ← holding [ov] (getMethod ov m pl)
   callWith pos f first (backTo pos (starEach (e :: es) X.env)) (backToKw pos (keywordEach [] X.env))):=by rfl) :
  PE X (.Call (.Attribute o m apos) (e :: es) [] pos) (V5 C m sp dvs E ta t):=by
 intro pins s σ H Q I h;refine PySem.W.methodCall_KW (pl:=pl) (thn (he pins s σ H _ I h) fun u s1 ⟨x,H1,I1,rx,a,dx,fs,ex,ea,l,q⟩=>?_) ht;subst ex;obtain rfl:u=Value.ref a:=rx;refine xP I1 ea c hm l ?_;refine PySem.W.callWith_K (first:=[.ref a]) (h₀:=X.base) I.ok.mod.kin hm.kp (thn (ha pos pins s1 σ H1 _ I1 q) fun us s2 ⟨vs,H2,I2,r,q2⟩=>⟨I2.kIn,?_⟩) hst hpl;exact YR (us:=.ref a :: us) (vs:=.ref a :: vs) F hr hb hd hx I2 (.cons rfl r) q2
theorem qP {pl:Sem Bool} (he:PE X o ta) (c:Cls X.K C) (hm:zJ X.K C m f) (F:qE X.prog X.w X.K X.mg X.base CX k f fd ps sp) (hr:yB k X.A) (hb:jd X.K fd ps ds) (hd:jw dvs ds) (hx:zU CX X E)
  (ht:eval (.Call (.Attribute o m apos) [] [] pos) X.env=(do
   let ov ← eval o X.env
   standAt apos.atName
   let (f,first) ← holding [ov] (getMethod ov m pl)
   callWith pos f first (backTo pos (starEach [] X.env)) (backToKw pos (keywordEach [] X.env))):=by rfl) :
  PE X (.Call (.Attribute o m apos) [] [] pos) (V5 C m sp dvs E ta XU):=by
 intro pins s σ H Q I h;refine PySem.W.methodCall_KW (pl:=pl) (thn (he pins s σ H _ I h) fun u s1 ⟨x,H1,I1,rx,a,dx,fs,ex,ea,l,q⟩=>?_) ht;subst ex;obtain rfl:u=Value.ref a:=rx;refine xP I1 ea c hm l ?_;exact PySem.W.callWith_K0 (first:=[.ref a]) I1.kIn hm.kp (YR (us:=[.ref a]) (vs:=[.ref a]) F hr hb hd hx I1 (.cons rfl .nil) q)
structure Mk (K:PySem.W.Frag) (C f:Addr):Prop where
 makes:PySem.W.makesIn K C=true
 init:PySem.W.findIn K (.ref C) "__init__"=some (some (.ref f))
 fn:PySem.W.isFn K (.ref f)=true
 kp:PySem.W.keepIn K (.ref C)=true
theorem VI {pins:List (Addr×Obj)} {σ:St} {H:Hp} {s:Shared} {Q:VK} {us:List Value} {vs:List V} (M:Mk X.K C f) (F:qE X.prog X.w X.K X.mg X.base CX k f fd ps sp) (hr:yB (k+1) X.A) (hb:jd X.K fd ps ds) (hd:jw dvs ds)
  (hx:zU CX X E) (I:Inv X pins σ H s) (r:jw vs us)
  (h:∀ x dx,H x=none→H dx=none→dx≠x→sp (.ref x :: (vs++dvs)) (upd (upd H dx (.own x)) x (.ins C dx [])) (fun v H2=>v=.non∧Q (.ref x) H2) E) :
  wpAny (model X.prog X.w) X.A (call (.ref C) us) (EP X pins σ Q) X.xe s:=by
 have hq:=h (s.heap.objs.size+1) s.heap.objs.size (I.hok.fresh (Nat.le_succ _)) (I.hok.fresh (Nat.le_refl _)) (Nat.ne_of_lt (Nat.lt_succ_self _));have I2:=Inv.made (C:=C) I;have r2:jw (V.ref (s.heap.objs.size+1) :: (vs++dvs)) (Value.ref (s.heap.objs.size+1) :: (us++ds)):=.cons rfl (r.append hd);have hl:(Value.ref (s.heap.objs.size+1) :: us++ds).length=ps.length:=by
  have e:=r2.length;rw [F.len _ _ _ _ hq] at e;exact e.symm
 refine wpAny_call (VU (f:=f) I.kIn M.makes M.init (beq_iff_eq.mp M.fn) (codeAny_mono (F.run _ X.stack _ _ ⟨Value.ref (s.heap.objs.size+1) :: us,[]⟩ (Value.ref (s.heap.objs.size+1) :: (us++ds)) _ _ E (hr.make C us [])
  (I2.env0.make C us []) (hb _ (Value.ref (s.heap.objs.size+1) :: us) I2.kIn hl) r2 hq) fun r s' hq'=>?_))
 cases r with
 | error e=>exact hx pins σ _ _ e s' I2 hq'
 | ok fl =>
  cases fl with
  | ret u =>
   obtain ⟨v,H',I3,rv,ev,q3⟩:=I2.after hq';subst ev;exact ⟨rv,⟨V.ref (s.heap.objs.size+1),H',I3,rfl,q3⟩⟩
  | next=>exact False.elim hq'
  | brk=>exact False.elim hq'
  | cont=>exact False.elim hq'
theorem xI (M:Mk X.K C f) (F:qE X.prog X.w X.K X.mg X.base CX k f fd ps sp) (hr:yB (k+1) X.A) (hg:Gl X x) (hm:X.mg x=some (.ref C)) (hb:jd X.K fd ps ds) (hd:jw dvs ds) (hx:zU CX X E)
  (ha:PA X (e :: es) t) (hdb:(x == ("__debug__":Str))=false:=by decide) (he:starEach (e :: es) X.env=(false,eval e X.env) :: starEach es X.env:=by rfl) (hpl:(backTo pos (starEach es X.env)).any (·.1)=false:=by rfl) :
  PE X (.Call (.Name x p) (e :: es) [] pos) (Kh C sp dvs E t):=by
 intro pins s σ H Q I h;refine wpAny_Call_Name_kw (xH I hg hm ?_ hdb);refine PySem.W.callWith_K (h₀:=X.base) I.ok.mod.kin M.kp (thn (ha pos pins s σ H _ I h) fun us s1 ⟨vs,H1,I1,r,q⟩=>⟨I1.kIn,?_⟩) he hpl;exact VI M F hr hb hd hx I1 r q
end
section
variable {X:Cx} {CX:CXT} {k:Nat} {f C:Addr} {fd:FuncData} {ps ks:List Str} {sp:Sp} {E:XK} {x m:Str} {p pos apos kpos:Pos} {e o:Expr} {es:List Expr} {kws:List Keyword} {te ta:TE} {t tk:TA} {nm:Option Str}
variable {g:List Value→List Value→List Value} {gV:List V→List V→List V}
end
structure jM (N P:List Str) (sc:Scope):Prop where
 kind:sc.kind=.function
 co:sc.isCoroutine=false
 gen:sc.isGenerator=false
 nd:N.Nodup
 pre:N.take P.length=P
 par:∀ x∈P,sc.names.lookup x=some .local∨sc.names.lookup x=some .cell
 nofree:∀ y∈sc.names,y.2≠.free
theorem ko {kindOf:Str→Option NameKind} {x:Str}:∀ {binds:List (Str×Value)} {m:Str→Option Value},(∀ v,(x,v)∉binds)→bindL kindOf binds m x=m x
 | [],_,_=>rfl
 | (n,v) :: r,m,h=>by
  unfold bindL;rw [ko fun w hw=>h w (List.mem_cons_of_mem _ hw)]
  split
  ·have:x≠n:=by rintro rfl;exact h v List.mem_cons_self
   simp [this]
  ·rfl
theorem kx {kindOf:Str→Option NameKind} {x:Str}:∀ {binds:List (Str×Value)} {m:Str→Option Value},(∀ v,(x,v)∉binds)→bindC kindOf binds m x=m x
 | [],_,_=>rfl
 | (n,v) :: r,m,h=>by
  unfold bindC;rw [kx fun w hw=>h w (List.mem_cons_of_mem _ hw)]
  split
  ·rfl
  ·have:x≠n:=by rintro rfl;exact h v List.mem_cons_self
   simp [this]
theorem JB {kindOf:Str→Option NameKind} {x:Str} {v:Value}:∀ {P:List Str} {vs:List Value} {i:Nat} {m:Str→Option Value},P.Nodup→P[i]?=some x→vs[i]?=some v→kindOf x=some .local →
  bindL kindOf (P.zip vs) m x=some v
 | [],_,_,_,_,h,_,_=>by simp at h
 | _ :: _,[],_,_,_,_,h,_=>by simp at h
 | p :: P,w :: vs,0,m,nd,h1,h2,hk=>by
  simp at h1 h2;subst h1;subst h2;show bindL kindOf ((p,w) :: P.zip vs) m p=_;unfold bindL;rw [ko fun v hv=>(List.nodup_cons.mp nd).1 (List.of_mem_zip hv).1,if_pos hk];simp
 | p :: P,w :: vs,i+1,m,nd,h1,h2,hk=>by
  show bindL kindOf ((p,w) :: P.zip vs) m x=_;unfold bindL;exact JB (i:=i) (List.nodup_cons.mp nd).2 (by simpa using h1) (by simpa using h2) hk
theorem kc {kindOf:Str→Option NameKind} {x:Str} {v:Value}:∀ {P:List Str} {vs:List Value} {i:Nat} {m:Str→Option Value},P.Nodup→P[i]?=some x→vs[i]?=some v→kindOf x≠some .local →
  bindC kindOf (P.zip vs) m x=some v
 | [],_,_,_,_,h,_,_=>by simp at h
 | _ :: _,[],_,_,_,_,h,_=>by simp at h
 | p :: P,w :: vs,0,m,nd,h1,h2,hk=>by
  simp at h1 h2;subst h1;subst h2;show bindC kindOf ((p,w) :: P.zip vs) m p=_;unfold bindC;rw [kx fun v hv=>(List.nodup_cons.mp nd).1 (List.of_mem_zip hv).1,if_neg hk];simp
 | p :: P,w :: vs,i+1,m,nd,h1,h2,hk=>by
  show bindC kindOf ((p,w) :: P.zip vs) m x=_;unfold bindC;exact kc (i:=i) (List.nodup_cons.mp nd).2 (by simpa using h1) (by simpa using h2) hk
def start (N:List Str) (vs:List V):St:=vs.map some++List.replicate (N.length - vs.length) none
def vF (CX:CXT) (P:Program) (w:World) (K:PySem.W.Frag) (mg:Str→Option Value) (base:Heap) (N:List Str) (qual:Str) (scope:Scope) (f:Addr) (cd:Value) (A:Around) (outer:List Env) (s:Shared) (H:Hp) (E:XK):Cx where
 prog:=P
 w:=w
 K:=K
 mg:=mg
 base:=base
 A:=A.deeper (envOfC qual scope s.heap.objs.size f cd)
 N:=N
 s₀:=s
 H₀:=H
 env:=envOfC qual scope s.heap.objs.size f cd
 outer:=outer
 stack:=envOfC qual scope s.heap.objs.size f cd :: outer
 ex:=[]
 calm:=true
 fn:=fun _=>true
 pn:=[]
 xe:=fun e s'=>wpAny (model P w) (A.deeper (envOfC qual scope s.heap.objs.size f cd)) (leaving (envOfC qual scope s.heap.objs.size f cd) e) (fun _ s''=>CX outer H s E e s'') (fun e' s''=>CX outer H s E e' s'') s'
theorem QR {sc:Scope} {n:Nat} {x:Str} (h:sc.names.lookup x=some .cell):∃ c,(cellsFrom n sc.names []).lookup x=some c:=by
 have q:=PySem.W.cellsFrom_some sc.names n [] (.inl h);exact Option.isSome_iff_exists.mp q
theorem ZH {CX:CXT} {P:Program} {w:World} {K:PySem.W.Frag} {mg:Str→Option Value} {base:Heap} {N ps:List Str} {qual:Str} {scope:Scope} {f:Addr} {cd:Value} {A:Around} {outer:List Env} {s s1:Shared} {H:Hp} {E:XK} {us:List Value} {vs:List V}
  (S:jM N ps scope) (hd:A.handled=none) (e0:YS P w K mg base A outer s H) (hl:vs.length=ps.length) (r:jw vs us)
  (x:InCallC s s.heap.objs.size (bindL (envOfC qual scope s.heap.objs.size f cd).kindOf (ps.zip us) fun _=>none) (cellsFrom (s.heap.objs.size+1) scope.names []) (bindC (envOfC qual scope s.heap.objs.size f cd).kindOf (ps.zip us) fun _=>none) s1) :
  Inv (vF CX P w K mg base N qual scope f cd A outer s H E) [] (start N vs) H s1:=by
 have hpl:ps.length≤N.length:=by have:=congrArg List.length S.pre;rw [List.length_take] at this;omega
 obtain ⟨h1,tk,rfl,hk⟩:=x.done;have noA:∀ b:Addr,b∉(vF CX P w K mg base N qual scope f cd A outer s H E).ex:=fun b z=>absurd (show b∈([]:List Addr) from z) (by simp);refine ⟨⟨e0.mod,S.kind,rfl,rfl,Nat.le_refl _,fun y z c h1 h2=>?_,fun y hy=>?_,fun y c _ h=>?_,fun _=>hd,Around.frames_deeper e0.frames,.inr ⟨rfl,rfl⟩,fun b z=>absurd z (noA b),e0.bs,e0.bsz,fun b _ _=>noA b,fun b z=>absurd z (noA b),e0.funs,e0.frf⟩,
  rfl,e0.bare,Un.kept hk,⟨_,x.toInCall.ns,fun i y v h1 h2 h3=>?_⟩,fun y c h=>⟨_,x.cell y c h⟩,e0.hok.fresh (Nat.le_refl _),fun y c h=>?_,fun p hp=>absurd (show p∈([]:List (Addr×Obj)) from hp) (by simp),e0.hok.kept hk,?_⟩
 ·exact name_of_addr x.apart (PySem.mem_of_lookup h1) (PySem.mem_of_lookup h2)
 ·have hy:scope.names.lookup y=some .cell∨scope.names.lookup y=some .free:=hy;rcases hy with hy | hy
  ·exact QR hy
  ·exact absurd rfl (S.nofree _ (PySem.mem_of_lookup hy))
 ·exact Nat.le_of_lt (x.above y c (PySem.mem_of_lookup h))
 ·have hi:i < vs.length:=by
   unfold start at h2
   by_cases hi:i < vs.length
   ·exact hi
   ·rw [List.getElem?_append_right (by simpa using hi)] at h2;rw [List.getElem?_replicate] at h2
    split at h2 <;> cases h2
  have ha:vs[i]?=some v:=by
   unfold start at h2;rw [List.getElem?_append_left (by simpa using hi),List.getElem?_map] at h2;cases e:vs[i]? with
   | none=>rw [e] at h2;cases h2
   | some a=>rw [e] at h2;cases h2;rfl
  obtain ⟨u,hu,rv⟩:=r.get ha;have hp:ps[i]?=some y:=by
   rw [← S.pre,List.getElem?_take_of_lt (by omega)];exact h1
  have ndP:ps.Nodup:=by rw [← S.pre];exact S.nd.sublist (List.take_sublist _ _)
  refine ⟨u,rv,?_⟩;rcases S.par y (List.mem_of_getElem? hp) with k | k
  ·exact .inl ⟨k,JB ndP hp hu k⟩
  ·obtain ⟨c,e⟩:=QR (n:=s.heap.objs.size+1) k;refine .inr ⟨.inl k,c,e,?_⟩;have q:=x.cell y c e;rw [kc ndP hp hu (by show scope.names.lookup y≠_;rw [k];decide)] at q;exact q
 ·exact e0.hok.fresh (Nat.le_of_lt (x.above y c (PySem.mem_of_lookup h)))
 ·unfold start;show _=N.length;rw [List.length_append,List.length_map,List.length_replicate];omega
theorem KW {CX:CXT} {P:Program} {w:World} {K:PySem.W.Frag} {mg:Str→Option Value} {base:Heap} {k:Nat} {f:Addr} {name qual:Str} {params:Arguments} {body:List Stmt} {scope:Scope} {dV kV doc pm cdv ct oc:Value} {an od:Option Addr}
  {osl:Array (Option Value)} {N ps:List Str} {sp:Sp} (lk:K.lookup f=some ⟨oc,od,.func (PySem.W.fnOf name qual params body scope dV kV doc pm an cdv ct),osl⟩) (hcd:PySem.W.codeIn K cdv qual=true) (S:jM N ps scope)
  (len:∀ vs H Q E,sp vs H Q E→vs.length=ps.length)
  (hbody:∀ (A:Around) (outer:List Env) (s:Shared) (H:Hp) (vs:List V) (Q:VK) (E:XK),yB k (A.deeper (envOfC qual scope s.heap.objs.size f cdv))→sp vs H Q E →
   ∃ t,PSs (vF CX P w K mg base N qual scope f cdv A outer s H E) body t∧t { nx:=fun _ H'=>Q .non H',rt:=Q } (start N vs) H) :
  qE P w K mg base CX (k+1) f (PySem.W.fnOf name qual params body scope dV kV doc pm an cdv ct) ps sp:=by
 refine ⟨len,fun A outer s H args us vs Q E hr e0 hb r hsp=>?_⟩;have hl:=len _ _ _ _ hsp;have KX:K.In s.heap:=e0.mod.kin.keeps fun b o e=>(e0.bs b o e).1;have lim:s.heap.NoLimit:=e0.mod.nolimit.keeps fun b o e=>(e0.bs b o e).1;have hkind:∀ y∈ps.zip us,scope.names.lookup y.1=some .local∨(scope.names.lookup y.1=some .cell∧((cellsFrom (s.heap.objs.size+1) scope.names []).lookup y.1).isSome=true):=fun ⟨n,v⟩ hy=>by
  rcases S.par n (List.of_mem_zip hy).1 with q | q
  ·exact .inl q
  ·exact .inr ⟨q,PySem.W.cellsFrom_some _ _ _ (.inl q)⟩
 refine codeAny_call_function hr.depth (KX _ _ lk) rfl S.co S.gen rfl (PySem.W.codeRec_of KX hcd) (hb _ _ _ _ ?_);refine wpAny_newFunctionEnv_cells S.kind hkind fun env he s1 x=>?_;subst he;refine ⟨lim.keeps x.toInCall.keep,codeAny_func ?_⟩;obtain ⟨t,ht,hq⟩:=hbody A outer s H vs Q E (hr.deeper _) hsp;have I:Inv (vF CX P w K mg base N qual scope f cdv A outer s H E) [] (start N vs) H s1:=ZH S hr.hd e0 hl r x;refine wpAny_mono (ht [] s1 (start N vs) H _ I hq) (fun fl s' hs=>?_) fun e s' hs=>hs;have fin:∀ {σ':St} {H':Hp} {v:V} {u:Value},Inv (vF CX P w K mg base N qual scope f cdv A outer s H E) [] σ' H' s'→jr v u→Q v H'→CE outer P w H s Q u s' :=
  fun {σ' H' v u} J rv q=>⟨v,H',J.os,J.bare,J.base,J.hok,rv,q⟩
 cases fl with
 | ret u =>
  obtain ⟨v,σ',H',J,rv,q⟩:=hs;exact fin J rv q
 | next =>
  obtain ⟨σ',H',J,q⟩:=hs;exact fin (v:=V.non) (u:=Value.none) J rfl q
 | brk =>
  obtain ⟨_,_,_,q⟩:=hs;exact False.elim q
 | cont =>
  obtain ⟨_,_,_,q⟩:=hs;exact False.elim q
end L2
namespace L2
open PySem PySem.Spec PyProof.Rows
section
variable {X:Cx} {x:Str} {p pos:Pos} {e:Expr} {es:List Expr} {t:TA} {id T:String} {r:List V→Hp→VK→Prop}
def tCB (r:List V→Hp→VK→Prop) (t:TA):TE:=fun σ H Q=>t σ H fun vs H1=>r vs H1 Q
theorem jI (hc:zC X (.builtin id) r) (hg:Gl X x) (hm:X.mg x=none) (hv:bootBuiltins x=some (.builtin id)) (ha:PA X (e :: es) t) (hn:x≠"__name__":=by decide) (hdb:(x == ("__debug__":Str))=false:=by decide)
  (he:starEach (e :: es) X.env=(false,eval e X.env) :: starEach es X.env:=by rfl) (hpl:(backTo pos (starEach es X.env)).any (·.1)=false:=by rfl):PE X (.Call (.Name x p) (e :: es) [] pos) (tCB r t):=by
 intro pins s σ H Q I h;refine wpAny_Call_Name_kw (v6 I hg hm hv ?_ hn hdb);exact PyProof.Rows.callWith_builtin1 (thn (ha pos pins s σ H _ I h) fun us s1 ⟨vs,H1,I1,r1,q1⟩=>hc pins s1 σ H1 vs us Q I1 r1 q1) he hpl
theorem qG (hc:zC X (.type T) r) (hg:Gl X x) (hm:X.mg x=none) (hv:bootBuiltins x=some (.type T)) (ha:PA X (e :: es) t) (hn:x≠"__name__":=by decide) (hdb:(x == ("__debug__":Str))=false:=by decide)
  (he:starEach (e :: es) X.env=(false,eval e X.env) :: starEach es X.env:=by rfl) (hpl:(backTo pos (starEach es X.env)).any (·.1)=false:=by rfl):PE X (.Call (.Name x p) (e :: es) [] pos) (tCB r t):=by
 intro pins s σ H Q I h;refine wpAny_Call_Name_kw (v6 I hg hm hv ?_ hn hdb);exact PyProof.Rows.callWith_type1 (thn (ha pos pins s σ H _ I h) fun us s1 ⟨vs,H1,I1,r1,q1⟩=>hc pins s1 σ H1 vs us Q I1 r1 q1) he hpl
end
end L2
namespace HT
open PySem PyProof.Rows
section
open PySem.SeqAt
open PySem.AutoSeq1 (wpAny_loadPart')
open PySem.MeetsSeq PySem.MeetsSeq2 PySem.MeetsSeq3
end
section
variable {prog:Program} {w:World} {A:Around} {E:Value→Shared→Prop} {s:Shared}
def sIx (n d:Nat):Option Int→Nat
 | none=>d
 | some v=>if v < 0 then (v+(n:Int)).toNat else min v.toNat n
end
end HT
namespace L2
open PySem PySem.Spec PyProof.Rows
abbrev TO:=St→Hp→(Option Int→Hp→Prop)→Prop
def PO (X:Cx) (e:Option Expr) (t:TO):Prop :=
 ∀ (pins:List (Addr×Obj)) (s:Shared) (σ:St) (H:Hp) (Q:Option Int→Hp→Prop),Inv X pins σ H s→t σ H Q →
  wpAny (model X.prog X.w) X.A (evalPart e X.env) (fun u s'=>∃ o H',Inv X pins σ H' s'∧IsPart u o∧Q o H') X.xe s
def Yv:TO:=fun _ H Q=>Q none H
def Kk (t:TE):TO:=fun σ H Q=>t σ H fun x H1=>∃ i,x=.int i∧Q (some i) H1
theorem zT {ns:List Int}:∀ {us:List Value},jw (ns.map V.int) us→IntsAre us ns:=by
 induction ns with
 | nil=>intro us r;rw [List.map_nil] at r;cases r;exact .nil
 | cons n ns ih =>
  intro us r;rw [List.map_cons] at r;cases r with
  | cons r1 r2 =>
   obtain ⟨t,e⟩:=r1;subst e;exact .cons n t (ih r2)
section
variable {X:Cx} {e:Expr} {te:TE} {lo hi:Option Expr} {tl th:TO} {pos p2:Pos}
theorem JH:PO X none Yv:=by
 intro pins s σ H Q I h;rw [evalPart_none];exact wpAny_pure ⟨none,H,I,.none,h⟩
theorem vH (h:PE X e te):PO X (some e) (Kk te):=by
 intro pins s σ H Q I hw;rw [evalPart_some];refine thn (h pins s σ H _ I hw) fun u s1 ⟨x,H1,I1,r1,q1⟩=>?_;obtain ⟨i,rfl,q⟩:=q1;obtain ⟨t,rfl⟩:=r1;exact ⟨some i,H1,I1,.int i t,q⟩
def SlR (X:Cx) (r:V→Option Int→Option Int→Hp→VK→Prop):Prop :=
 ∀ (pins:List (Addr×Obj)) (s:Shared) (σ:St) (H:Hp) (x:V) (v vl vu:Value) (lo hi:Option Int) (sl:Addr) (Q:VK),Inv X pins σ H s→jr x v→s.heap.IsSliceOf sl vl vu .none→IsPart vl lo→IsPart vu hi→r x lo hi H Q →
  ∃ T id,typeLookup (.type T) "__getitem__"=pure (some (.builtin id))∧s.TypeIs v T∧wpAny (model X.prog X.w) X.A (getItem v (.ref sl)) (EP X pins σ Q) X.xe s
def tSl (r:V→Option Int→Option Int→Hp→VK→Prop) (te:TE) (tl th:TO):TE:=fun σ H Q=>te σ H fun x H1=>tl σ H1 fun l H2=>th σ H2 fun u H3=>r x l u H3 Q
theorem vN {r:V→Option Int→Option Int→Hp→VK→Prop} (hr:SlR X r) (he:PE X e te) (hl:PO X lo tl) (hu:PO X hi th):PE X (.Subscript e (.Slice lo hi none p2) pos) (tSl r te tl th):=by
 intro pins s σ H Q I h;refine Subscript_ (thn (he pins s σ H _ I h) fun v s1 ⟨x,H1,I1,r1,q1⟩=>?_);refine wpAny_Slice (thn (hl pins s1 σ H1 _ I1 q1) fun vl s2 ⟨l,H2,I2,pl,q2⟩=>thn (hu pins s2 σ H2 _ I2 q2) fun vu s3 ⟨u,H3,I3,pu,q3⟩=>?_);rw [evalPart_none];refine wpAny_pure ?_;have I4:Inv X pins σ H3 { s3 with heap:=s3.heap.push { cls:=.type "slice",data:=.fields #[vl,vu,.none] } }:=I3.kept (t':=s3.toks) fun b ob q=>Heap.get?_push_of_some _ q;obtain ⟨T,id,hT,ht,hg⟩:=hr pins { s3 with heap:=s3.heap.push { cls:=.type "slice",data:=.fields #[vl,vu,.none] } } σ H3 x v vl vu l u s3.heap.objs.size Q I4 r1 (Heap.IsSliceOf.new ..) pl pu q3;show wpAny (model X.prog X.w) X.A (subscriptTail e (.Slice lo hi none p2) v (.ref s3.heap.objs.size)) (EP X pins σ Q) X.xe { s3 with heap:=s3.heap.push { cls:=.type "slice",data:=.fields #[vl,vu,.none] } };exact tail_any (ops:=[.ref s3.heap.objs.size,v]) ht hT hg (by with_unfolding_all rfl)
def vX (xs:List V) (lo hi:Option Int):List V:=(xs.drop (HT.sIx xs.length 0 lo)).take (HT.sIx xs.length xs.length hi - HT.sIx xs.length 0 lo)
theorem Qz (xs:List V) (lo hi:Option Int):(vX xs lo hi).length≤xs.length:=by
 unfold vX;rw [List.length_take,List.length_drop];omega
end
end L2
namespace L2
open PySem PySem.Spec PyProof.Rows
def ixN (n:Nat) (i:Int):Option Nat:=if 0≤i then (if i < n then some i.toNat else none) else if -(n:Int)≤i then some (i+n).toNat else none
def atI {α:Type} (xs:List α) (i:Int):Option α:=(ixN xs.length i).bind fun j=>xs[j]?
theorem Yj {n:Nat} {i:Int} {j:Nat} (h:ixN n i=some j):seqIndex? i n=some j∧j < n∧-(n:Int)≤i∧i < n:=by
 unfold ixN at h
 by_cases h0:0≤i
 ·rw [if_pos h0] at h
  by_cases h1:i < n
  ·rw [if_pos h1] at h;have e:i.toNat=j:=Option.some.inj h;exact ⟨by rw [seqIndex_of h0 h1,e],by omega,by omega,h1⟩
  ·rw [if_neg h1] at h;cases h
 ·rw [if_neg h0] at h
  by_cases h1:-(n:Int)≤i
  ·rw [if_pos h1] at h;have e:(i+n).toNat=j:=Option.some.inj h;exact ⟨by rw [seqIndex_neg (by omega) h1,e],by omega,h1,by omega⟩
  ·rw [if_neg h1] at h;cases h
theorem Yd {α:Type} {xs:List α} {i:Int} {v:α} (h:atI xs i=some v):∃ j,seqIndex? i xs.length=some j∧xs[j]?=some v∧j < xs.length∧-(xs.length:Int)≤i∧i < xs.length:=by
 unfold atI at h;cases e:ixN xs.length i with
 | none=>rw [e] at h;cases h
 | some j =>
  rw [e] at h;obtain ⟨h1,h2,h3,h4⟩:=Yj e;exact ⟨j,h1,h,h2,h3,h4⟩
theorem jY {α:Type} {xs:List α} {j:Nat} {v:α} (h:xs[j]?=some v):atI xs (j:Int)=some v:=by
 have hj:j < xs.length:=(List.getElem?_eq_some_iff.mp h).1;have e:ixN xs.length (j:Int)=some j:=by
  unfold ixN;rw [if_pos (by omega),if_pos (by omega)];simp
 unfold atI;rw [e];exact h
theorem Qm {α:Type} (xs:List α) (v:α):atI (xs++[v]) (-1)=some v:=by
 have hl:(xs++[v]).length=xs.length+1:=by simp
 have e:ixN (xs++[v]).length (-1)=some xs.length:=by
  unfold ixN;rw [hl,if_neg (by decide),if_pos (by omega)];congr 1;omega
 unfold atI;rw [e];show (xs++[v])[xs.length]?=some v;simp
def PlainIx (b:Expr):Prop:=∀ o i,subscripted b false o i=operate [o,i] (getItem o i)
def IxR (X:Cx) (r:R2):Prop :=
 ∀ (value slice:Expr) (pins:List (Addr×Obj)) (s:Shared) (σ:St) (H:Hp) (x y:V) (v u:Value) (Q:VK),Inv X pins σ H s→jr x v→jr y u→r x y H Q →
  subscripted slice false v u=operate [v,u] (getItem v u)→wpAny (model X.prog X.w) X.A (subscriptTail value slice v u) (EP X pins σ Q) X.xe s
def MtR (X:Cx) (id:String) (r:V→List V→Hp→VK→Prop):Prop :=
 ∀ (pins:List (Addr×Obj)) (s:Shared) (σ:St) (H:Hp) (x:V) (xs:List V) (v:Value) (us:List Value) (Q:VK),Inv X pins σ H s→jr x v→jw xs us→r x xs H Q →
  wpAny (model X.prog X.w) X.A (call (.builtin id) (v :: us)) (EP X pins σ Q) X.xe s
section
variable {X:Cx} {a b:Expr} {ta tb:TE} {pos:Pos}
theorem jb {r:R2} (hr:IxR X r) (ha:PE X a ta) (hb:PE X b tb) (hs:PlainIx b):PE X (.Subscript a b pos) (tOp r ta tb):=by
 intro pins s σ H Q I h;exact Subscript_ (UD ha hb I h fun v u s2 x y H2 I2 rx ry q=>hr a b pins s2 σ H2 x y v u Q I2 rx ry q (hs _ _))
def U4 (K:PySem.W.Frag):R2:=fun x y H Q=>∃ p xs i v,x=.ref p∧y=.int i∧SqL K H p xs∧atI xs i=some v∧Q v H
def W9 (K:PySem.W.Frag):R2:=fun x y H Q=>∃ p xs i v,x=.ref p∧y=.int i∧SqT K H p xs∧atI xs i=some v∧Q v H
theorem XN:IxR X (U4 X.K):=by
 intro value slice pins s σ H x y v u Q I rx ry h hs;obtain ⟨p,xs,i,z,rfl,rfl,hq,he,q⟩:=h;cases rx;obtain ⟨t,rfl⟩:=ry;obtain ⟨its,r,pl,hz⟩:=I.list hq;obtain ⟨j,h1,h2,h3,h4,h5⟩:=Yd he;obtain ⟨w,ew,rw'⟩:=r.get h2;have hl:=r.length;have hn:=JJ;have fin:EP X pins σ Q w s:=⟨z,H,I,rw',q⟩
 by_cases h0:0≤i
 ·have hj:i.toNat=j:=by
   rw [seqIndex_of h0 h5] at h1;exact Option.some.inj h1
  exact item_listR pl.isList h0 (by omega) (by rw [hj];simpa using ew) fin hs
 ·have hj:(i+(its.toArray.size:Int)).toNat=j:=by
   rw [seqIndex_neg (by omega) h4] at h1;rw [List.size_toArray,← hl];exact Option.some.inj h1
  exact subscriptTail_builtinR (x:=w) pl.isList.typeIs slot_list_getitem.lookup
   (wpAny_getItem_list_neg (Q:=fun r s'=>r=w∧EP X pins σ Q r s') pl.isList (by omega) (by rw [List.size_toArray] <;> omega) (by omega) (by rw [hj];simpa using ew) ⟨rfl,fin⟩) hs
theorem Up:IxR X (W9 X.K):=by
 intro value slice pins s σ H x y v u Q I rx ry h hs;obtain ⟨p,xs,i,z,rfl,rfl,hq,he,q⟩:=h;cases rx;obtain ⟨t,rfl⟩:=ry;obtain ⟨its,r,pl,hz⟩:=I.tuple hq;obtain ⟨j,h1,h2,h3,h4,h5⟩:=Yd he;obtain ⟨w,ew,rw'⟩:=r.get h2;have hl:=r.length;have hn:=JJ;have fin:EP X pins σ Q w s:=⟨z,H,I,rw',q⟩;exact subscriptTail_builtinR (x:=w) pl.typeIs slot_tuple_getitem.lookup
  (getItem_tuple (j:=j) (Q:=fun r s'=>r=w∧EP X pins σ Q r s') pl (by omega) (by omega) (by rw [List.size_toArray,← hl];exact h1) (by simpa using ew) ⟨rfl,fin⟩) hs
theorem YB (its:List Value) (n j:Nat) (u:Value):Obj.mapSeq (·.setIfInBounds j u) { cls:=.type "list",data:=.seq its.toArray n }={ cls:=.type "list",data:=.seq (its.set j u).toArray n }:=by
 simp [Obj.mapSeq]
theorem Inv.lst {pins:List (Addr×Obj)} {σ:St} {H:Hp} {s:Shared} {p:Addr} {xs:List V} (I:Inv X pins σ H s) (h:H p=some (.lst xs)) :
  ∃ (its:List Value) (n:Nat),jw xs its∧s.heap.get? p=some { cls:=.type "list",data:=.seq its.toArray n }∧xs.length≤sizeLine:=by
 obtain ⟨z,its,n,r,e⟩:=I.hok p _ h;exact ⟨its,n,r,e,z⟩
theorem Inv.lstUpd {pins:List (Addr×Obj)} {σ:St} {H:Hp} {s:Shared} {p:Addr} {xs ys:List V} {its its':List Value} {n n':Nat} {f:Obj→Obj} (I:Inv X pins σ H s) (h:H p=some (.lst xs))
  (ho:s.heap.get? p=some { cls:=.type "list",data:=.seq its.toArray n }) (hf:f { cls:=.type "list",data:=.seq its.toArray n }={ cls:=.type "list",data:=.seq its'.toArray n' }) (r:jw ys its') (hz:ys.length≤sizeLine) (t:Nat) :
  Inv X pins σ (upd H p (.lst ys)) { s with heap:=s.heap.update p f,toks:=t }:=by
 have e:(s.heap.update p f).get? p=some { cls:=.type "list",data:=.seq its'.toArray n' }:=by
  rw [Heap.get?_update_self f ho (by rw [hf] <;> rfl),hf]
 refine I.write (x:=p) (e:=p) (by rw [h];trivial) (.inl rfl) (fun b u hb q=>(Heap.get?_update_other _ _ (Ne.symm hb)).trans q) ⟨_,e⟩ ?_;exact ⟨hz,its',n',r,e⟩
def W0:V→V→V→Hp→(Hp→Prop)→Prop:=fun o i v H Q=>∃ p xs k j,o=.ref p∧i=.int k∧H p=some (.lst xs)∧ixN xs.length k=some j∧Q (upd H p (.lst (xs.set j v)))
theorem Qr:PSet X W0:=by
 intro pins s σ H o i v ov iv u Q I ro ri rv h;obtain ⟨p,xs,k,j,rfl,rfl,hp,hj,q⟩:=h;cases ro;obtain ⟨t,rfl⟩:=ri;obtain ⟨its,n,r,ho,hz⟩:=I.lst hp;obtain ⟨h1,h2,h3,h4⟩:=Yj hj;have hl:=r.length;have hn:=JJ;have I':Inv X pins σ (upd H p (.lst (xs.set j v))) { s with heap:=s.heap.update p (Obj.mapSeq (·.setIfInBounds j u)) } :=
  I.lstUpd hp ho (YB its n j u) (r.set rv j) (by rw [List.length_set];exact hz) s.toks
 by_cases h0:0≤k
 ·have hk:k.toNat=j:=by
   rw [seqIndex_of h0 h4] at h1;exact Option.some.inj h1
  exact PySem.W.ki_setAt ho h0 (by omega) (by rw [List.size_toArray,← hl];exact h4) (by rw [hk];exact ⟨_,I',q⟩)
 ·have hk:(k+(its.toArray.size:Int)).toNat=j:=by
   rw [seqIndex_neg (by omega) h3] at h1;rw [List.size_toArray,← hl];exact Option.some.inj h1
  exact PySem.W.ki_setBack ho (by omega) (by rw [List.size_toArray,← hl];exact h3) (by omega) (by rw [hk];exact ⟨_,I',q⟩)
theorem Jk (lo hi:Option Int) (n:Nat):(sliceBounds lo hi none n).1=((HT.sIx n 0 lo:Nat):Int)∧(sliceBounds lo hi none n).2.1=((HT.sIx n n hi:Nat):Int)∧(sliceBounds lo hi none n).2.2=1:=by
 refine ⟨?_,?_,rfl⟩
 ·cases lo with
  | none=>simp [sliceBounds,HT.sIx]
  | some i =>
   simp only [sliceBounds,HT.sIx,Option.getD_none,show (1:Int) > 0 by decide,if_true]
   by_cases h:i < 0
   ·simp only [h,if_true] <;> omega
   ·simp only [h,if_false] <;> omega
 ·cases hi with
  | none=>simp [sliceBounds,HT.sIx]
  | some i =>
   simp only [sliceBounds,HT.sIx,Option.getD_none,show (1:Int) > 0 by decide,if_true]
   by_cases h:i < 0
   ·simp only [h,if_true] <;> omega
   ·simp only [h,if_false] <;> omega
theorem kK (its:List Value) (lo hi:Option Int):slicePick its.toArray lo hi none=((its.drop (HT.sIx its.length 0 lo)).take (HT.sIx its.length its.length hi - HT.sIx its.length 0 lo)).toArray:=by
 obtain ⟨h1,h2,h3⟩:=Jk lo hi its.toArray.size;unfold slicePick;rw [h1,h2,h3];simp only [sliceRange_one,pick_run,List.size_toArray] <;> rfl
def j0d (K:PySem.W.Frag):V→Option Int→Option Int→Hp→VK→Prop:=fun x lo hi H Q=>∃ a xs,x=.ref a∧SqL K H a xs∧∀ p,H p=none→Q (.ref p) (upd H p (.lst (vX xs lo hi)))
theorem XE:SlR X (j0d X.K):=by
 intro pins s σ H x v vl vu lo hi sl Q I rx hs pl pu h;obtain ⟨a,xs,rfl,hx,q⟩:=h;cases rx;obtain ⟨its,r,ht,hz⟩:=I.list hx;have hlen:=r.length;refine ⟨"list",_,slot_list_getitem.lookup,ht.isList.typeIs,?_⟩;refine wpAny_getItem_list_slice ht.isList hs pl pu .none (by simp) ?_ (by rw [List.size_toArray] <;> omega);rw [kK,← hlen];refine ⟨.ref s.heap.objs.size,_,I.laid (t':=s.toks) (o:=.lst (vX xs lo hi)) (fun b ob q=>Heap.get?_push_of_some _ q) (Nat.le_refl _) ?_,rfl,q _ (I.hok.fresh (Nat.le_refl _))⟩;exact ⟨Nat.le_trans (Qz xs lo hi) hz,_,0,(r.drop (HT.sIx xs.length 0 lo)).take (HT.sIx xs.length xs.length hi - HT.sIx xs.length 0 lo),Heap.get?_push_size _ rfl⟩
theorem Jw:zC X (.builtin "len") (fun xs H Q=>∃ p ys,xs=[.ref p]∧(SqL X.K H p ys∨SqT X.K H p ys)∧Q (.int ys.length) H):=by
 intro pins s σ H xs us Q I r h;obtain ⟨p,ys,rfl,hq,q⟩:=h;obtain ⟨u,rfl,rx⟩:=xj r;cases rx;have hn:=JJ;rcases hq with hq | hq
 ·obtain ⟨its,r',pl,hz⟩:=I.list hq;have hlen:=r'.length;exact Calls.call_len_list pl.isList (by simp only [List.size_toArray] <;> omega) ⟨.int ys.length,H,I.tok _,⟨s.toks+1,by rw [List.size_toArray,hlen]⟩,q⟩
 ·obtain ⟨its,r',pl,hz⟩:=I.tuple hq;have hlen:=r'.length;exact len_tuple pl (by simp only [List.size_toArray] <;> omega) ⟨.int ys.length,H,I.tok _,⟨s.toks+1,by rw [List.size_toArray,hlen]⟩,q⟩
theorem JX:zC X (.type "list") (fun xs H Q=>∃ p ys,xs=[.ref p]∧(SqL X.K H p ys∨SqT X.K H p ys)∧∀ l,H l=none→Q (.ref l) (upd H l (.lst ys))):=by
 intro pins s σ H xs us Q I r h;obtain ⟨p,ys,rfl,hq,q⟩:=h;obtain ⟨u,rfl,rx⟩:=xj r;cases rx;have fin:∀ (its:List Value),jw ys its→ys.length≤sizeLine→∀ (h':Heap) (c':Nat),(∀ b o',s.heap.get? b=some o'→h'.get? b=some o') →
   h'.get? s.heap.objs.size=some { cls:=.type "list",dict:=none,data:=.seq its.toArray c',slots:=#[] }→EP X pins σ Q (.ref s.heap.objs.size) { s with heap:=h' }:=fun its r' hz h' c' kp e =>
  ⟨.ref s.heap.objs.size,_,I.laid (t':=s.toks) kp (Nat.le_refl _) (show qM X.prog X.w _ h' _ (.lst ys) from ⟨hz,its,c',r',e⟩),rfl,q _ (I.hok.fresh (Nat.le_refl _))⟩
 rcases hq with hq | hq
 ·obtain ⟨its,r',pl,hz⟩:=I.list hq;have hlen:=r'.length;obtain ⟨o,ho,hc,n,hd⟩:=pl.isList;exact call_list_seq p (.inl rfl) ho hc hd (fun h' c' kp e=>fin its r' hz h' c' kp e) (by simp only [List.size_toArray] <;> omega)
 ·obtain ⟨its,r',pl,hz⟩:=I.tuple hq;have hlen:=r'.length;obtain ⟨o,ho,hc,n,hd⟩:=pl;exact call_list_seq p (.inr rfl) ho hc hd (fun h' c' kp e=>fin its r' hz h' c' kp e) (by simp only [List.size_toArray] <;> omega)
theorem kJ:zC X (.type "tuple") (fun xs H Q=>∃ p ys,xs=[.ref p]∧((SqL X.K H p ys∧∀ l,H l=none→Q (.ref l) (upd H l (.tup ys)))∨(SqT X.K H p ys∧Q (.ref p) H))):=by
 intro pins s σ H xs us Q I r h;obtain ⟨p,ys,rfl,h⟩:=h;obtain ⟨u,rfl,rx⟩:=xj r;cases rx;rcases h with ⟨hq,q⟩ | ⟨hq,q⟩
 ·obtain ⟨its,r',pl,hz⟩:=I.list hq;have hlen:=r'.length;refine call_tuple_list pl.isList (fun h' kp=>?_) (by simp only [List.size_toArray] <;> omega);have I1:Inv X pins σ H { s with heap:=h' }:=I.kept (t':=s.toks) kp;have I2:Inv X pins σ (upd H h'.objs.size (.tup ys)) { s with heap:=h'.push { cls:=.type "tuple",data:=.seq its.toArray } } :=
   I1.laid (t':=s.toks) (fun b o e=>Heap.get?_push_of_some _ e) (Nat.le_refl _) (show qM X.prog X.w _ _ _ (.tup ys) from ⟨hz,its,r',IsTup.new _ _⟩)
  exact ⟨.ref h'.objs.size,_,I2,rfl,q _ (I1.hok.fresh (Nat.le_refl _))⟩
 ·obtain ⟨its,r',pl,hz⟩:=I.tuple hq;exact call_tuple_same pl ⟨.ref p,H,I,rfl,q⟩
def tyV (K:PySem.W.Frag) (T:String) (x:V) (H:Hp):Prop:=match x with
 | .str _=>T="str"
 | .int _=>T="int"
 | .ref p=>(T="list"∧∃ xs,SqL K H p xs)∨(T="tuple"∧∃ o,K.lookup p=some o∧o.cls=.type "tuple"∧o.dict=none) ∨
   (T="dict"∧((∃ kvs,H p=some (.dK kvs))∨∃ kvs,H p=some (.dT kvs)))∨(T="set"∧∃ S n,H p=some (.set S n))
 | _=>False
theorem Ue {pins:List (Addr×Obj)} {σ:St} {H:Hp} {s:Shared} {T:String} {x:V} {v:Value} (I:Inv X pins σ H s) (r:jr x v) (ty:tyV X.K T x H) :
  s.TypeIs v T∧∀ a,v=.ref a→∃ ob,s.heap.get? a=some ob∧ob.dict=none:=by
 cases x with
 | str z =>
  obtain ⟨t,rfl⟩:=r;cases (show T="str" from ty);exact ⟨typeIs_str s z t,fun _ e=>nomatch e⟩
 | int i =>
  obtain ⟨t,rfl⟩:=r;cases (show T="int" from ty);exact ⟨typeIs_int s i t,fun _ e=>nomatch e⟩
 | ref p =>
  cases r;rcases ty with ⟨rfl,xs,hq⟩ | ⟨rfl,o,hk,hc,hd⟩ | ⟨rfl,hk⟩ | ⟨rfl,S,n,hk⟩
  ·obtain ⟨its,_,pl,_⟩:=I.list hq;refine ⟨pl.isList.typeIs,fun a e=>?_⟩;cases e;obtain ⟨o,n,e,c,hd,_⟩:=pl;exact ⟨o,e,hd⟩
  ·refine ⟨⟨o,I.kIn p o hk,hc⟩,fun a e=>?_⟩;cases e;exact ⟨o,I.kIn _ o hk,hd⟩
  ·have z:∃ o,s.heap.get? p=some o∧o.ExactDict:=by
    rcases hk with ⟨kvs,hk⟩ | ⟨kvs,hk⟩
    ·obtain ⟨_,_,_,_,o,_,_,e,ex,_⟩:=I.hok p _ hk;exact ⟨o,e,ex⟩
    ·obtain ⟨_,_,_,_,o,_,_,e,ex,_⟩:=I.hok p _ hk;exact ⟨o,e,ex⟩
   obtain ⟨o,e,ex⟩:=z;refine ⟨⟨o,e,ex.1⟩,fun a e2=>?_⟩;cases e2;exact ⟨o,e,ex.2.1⟩
  ·obtain ⟨o,_,_,_,e,ex,_⟩:=I.hok p _ hk;refine ⟨⟨o,e,ex.1⟩,fun a e2=>?_⟩;cases e2;exact ⟨o,e,ex.2.1⟩
 | _=>exact False.elim ty
def tBM (K:PySem.W.Frag) (T:String) (r:V→List V→Hp→VK→Prop) (to:TE) (t:TA):TE:=fun σ H Q=>to σ H fun x H1=>tyV K T x H1∧t σ H1 fun xs H2=>r x xs H2 Q
variable {o e:Expr} {es:List Expr} {to:TE} {t:TA} {name:Str} {apos cpos:Pos} {T id:String} {r:V→List V→Hp→VK→Prop}
theorem Wr (pa:PlainAttrs T) (slot:Slot T name id) (hty:typeOf (.builtin id)=pure (.type "method_descriptor")) (hm:MtR X id r) (ho:PE X o to) (ha:PA X (e :: es) t)
  (hbase:attributeBase o name X.env (eval o X.env)=eval o X.env:=by rfl)
  (hfew:((backTo cpos (starEach (e :: es) X.env)).all (fun x=>!x.1) && (backToKw cpos (keywordEach [] X.env)).all (fun x=>x.1.isSome)
   && decide ((e :: es).length+([]:List Keyword).length+(if ([]:List Keyword).isEmpty then 0 else 1) < 30))=true:=by rfl)
  (hline:(apos.endLine == cpos.line)=true:=by rfl) (hs:starEach (e :: es) X.env=(false,eval e X.env) :: starEach es X.env:=by rfl) (hplain:(backTo cpos (starEach es X.env)).any (·.1)=false:=by rfl) :
  PE X (.Call (.Attribute o name apos) (e :: es) [] cpos) (tBM X.K T r to t):=by
 intro pins s σ H Q I h;refine wpAny_Call_method_late hbase hfew hline rfl (thn (ho pins s σ H _ I h) fun v s1 ⟨x,H1,I1,r1,ty,q1⟩=>?_);obtain ⟨h1,h2⟩:=Ue I1 r1 ty;refine ⟨T,id,pa,slot,hty,h1,h2,?_⟩;have hA:=ha cpos pins s1 σ H1 _ I1 q1;rw [hs] at hA ⊢;refine Calls.callWith_builtin (by show (false || (backTo cpos (starEach es X.env)).any (·.1))=false;rw [hplain] <;> rfl) (Calls.evalArgs_plain ?_);exact thn hA fun us s2 ⟨vs,H2,I2,r2,q2⟩=>hm pins s2 σ H2 x vs v us Q I2 r1 r2 q2
end
end L2
namespace L2
open PySem PySem.Spec PyProof.Rows
def MtM (X:Cx) (id:String) (r:V→List V→Hp→VK→Prop):Prop :=
 ∀ (pins:List (Addr×Obj)) (s:Shared) (σ:St) (H:Hp) (x:V) (xs:List V) (v:Value) (us:List Value) (Q:VK),Inv X pins σ H s→jr x v→jw xs us→r x xs H Q →
  wpAny (model X.prog X.w) X.A (call (.builtin id) (v :: us)) (EP X pins σ Q) X.xe s
theorem jw.one:∀ {x:V} {us:List Value},jw [x] us→∃ u,us=[u]∧jr x u
 | _,_,.cons r .nil=>⟨_,rfl,r⟩
section
variable {X:Cx} {pins:List (Addr×Obj)} {σ:St} {H:Hp} {s:Shared} {l b:Addr} {xs ys zs:List V}
theorem Inv.lset {its its':List Value} {n:Nat} {f:Array Value→Array Value} {t':Nat} (I:Inv X pins σ H s) (hH:H l=some (.lst xs))
  (e:s.heap.get? l=some { cls:=.type "list",data:=.seq its.toArray n }) (hf:f its.toArray=its'.toArray) (hv:jw ys its') (hz:ys.length≤sizeLine) :
  Inv X pins σ (upd H l (.lst ys)) { s with heap:=s.heap.update l (Obj.mapSeq f),toks:=t' }:=by
 have q:=PySem.IsL.update e f;rw [hf] at q;refine I.write (x:=l) (e:=l) (by rw [hH];exact trivial) (.inl rfl) (fun b' u hb hu=>(Heap.get?_update_other s.heap (Obj.mapSeq f) (Ne.symm hb)).trans hu) ⟨_,q⟩ ?_;exact ⟨hz,its',_,hv,q⟩
theorem Inv.lnew {its:List Value} {t':Nat} (I:Inv X pins σ H s) (hv:jw ys its) (hz:ys.length≤sizeLine) :
  Inv X pins σ (upd H s.heap.objs.size (.lst ys)) { s with heap:=s.heap.push { cls:=.type "list",data:=.seq its.toArray },toks:=t' } :=
 I.laid (fun _ _ q=>Heap.get?_push_of_some _ q) (Nat.le_refl _) ⟨hz,its,0,hv,Heap.get?_push_size _ rfl⟩
theorem Inv.fresh (I:Inv X pins σ H s):H s.heap.objs.size=none:=I.hok.fresh (Nat.le_refl _)
theorem Inv.lstM (I:Inv X pins σ H s) (hH:H l=some (.lst xs)):xs.length≤sizeLine∧∃ (its:List Value) (n:Nat),jw xs its∧xs.length=its.length∧s.heap.get? l=some { cls:=.type "list",data:=.seq its.toArray n }:=by
 obtain ⟨z,its,n,r,e⟩:=I.hok l _ hH;exact ⟨z,its,n,r,r.length,e⟩
end
section
variable {X:Cx}
def XW:V→List V→Hp→VK→Prop:=fun x vs H Q=>∃ l xs y,x=.ref l∧vs=[y]∧H l=some (.lst xs)∧xs.length < sizeLine∧Q .non (upd H l (.lst (xs++[y])))
theorem jj:MtM X "list.append" XW:=by
 intro pins s σ H x vs v us Q I rx rv h;obtain ⟨l,xs,y,rfl,rfl,hH,hz,q⟩:=h;cases rx;obtain ⟨u,rfl,ru⟩:=rv.one;obtain ⟨z,its,n,r,hl,e⟩:=I.lstM hH;refine call_meets F.slot_list_append ⟨_,e,rfl⟩ F.entry_list_append (F.args_list_append_2 _ _) (PySem.list_append l its.toArray n u (by rw [List.size_toArray];omega)) ⟨e,?_⟩;refine ⟨.non,_,I.lset (its':=its++[u]) hH e (by simp) (r.append (.cons ru .nil)) ?_,rfl,q⟩;rw [List.length_append,List.length_singleton];omega
def j0i:R2:=fun x y H Q=>∃ l b xs zs,x=.ref l∧y=.ref b∧H l=some (.lst xs)∧H b=some (.lst zs)∧xs.length+zs.length≤sizeLine∧∀ p,H p=none→Q (.ref p) (upd H p (.lst (xs++zs)))
theorem qw:OpR X (binaryOp .Add) j0i:=by
 intro pins s σ H x y v u Q I rx ry h;obtain ⟨l,b,xs,zs,rfl,rfl,hH,hB,hz,q⟩:=h;cases rx;cases ry;obtain ⟨z,its,n,r,hl,e⟩:=I.lstM hH;obtain ⟨z2,its2,n2,r2,hl2,e2⟩:=I.lstM hB;refine PySem.P.add_list e e2 ?_ (by rw [List.size_toArray,List.size_toArray];omega);have ea:its.toArray++its2.toArray=(its++its2).toArray:=by simp
 rw [ea];exact ⟨.ref _,_,I.lnew (t':=s.toks) (r.append r2) (by rw [List.length_append];omega),rfl,q _ I.fresh⟩
end
section
variable {prog:Program} {w:World} {A:Around} {E:Value→Shared→Prop} {s:Shared}
set_option maxRecDepth 100000 in
end
section
variable {X:Cx}
end
end L2
namespace L2
open PySem PySem.Spec PyProof.Rows
section
variable {κ:Type} [DecidableEq κ]
def yK (kvs:List (κ×V)) (k:κ):Option V:=(kvs.find? fun kv=>decide (kv.1=k)).map (·.2)
def yY (kvs:List (κ×V)) (k:κ) (v:V):List (κ×V) :=
 if (kvs.any fun kv=>decide (kv.1=k))=true then kvs.map (fun kv=>if kv.1=k then (kv.1,v) else kv) else kvs++[(k,v)]
theorem yU {p:κ×V} {r:List (κ×V)} {k:κ} (e:p.1=k):yK (p :: r) k=some p.2:=by simp [yK,List.find?_cons,e]
theorem yM {p:κ×V} {r:List (κ×V)} {k:κ} (e:¬ p.1=k):yK (p :: r) k=yK r k:=by simp [yK,List.find?_cons,e]
theorem zd (k:κ):∀ kvs:List (κ×V),(kvs.any fun kv=>decide (kv.1=k))=(yK kvs k).isSome
 | []=>rfl
 | p :: r=>by
  rw [List.any_cons]
  by_cases e:p.1=k
  ·simp only [yU e,decide_eq_true e,Bool.true_or,Option.isSome_some]
  ·rw [yM e,decide_eq_false e,Bool.false_or];exact zd k r
theorem yu (kvs:List (κ×V)) (k:κ) (v:V):(yY kvs k v).length≤kvs.length+1:=by
 unfold yY
 split
 ·rw [List.length_map];omega
 ·rw [List.length_append,List.length_cons,List.length_nil];omega
theorem zI {kvs:List (κ×V)} {k:κ} (v:V) (h:yK kvs k=none):yY kvs k v=kvs++[(k,v)]:=by
 unfold yY;rw [zd,h];exact if_neg (by decide)
theorem zF.isSome_eq {o:Option V} {u:Option Value} (r:zF o u):o.isSome=u.isSome:=by
 cases o with
 | none=>cases u with
  | none=>rfl
  | some _=>exact (show False from r).elim
 | some _=>cases u with
  | none=>exact (show False from r).elim
  | some _=>rfl
theorem zF.getD {o:Option V} {u:Option Value} {d:V} {d':Value} (r:zF o u) (rd:jr d d'):jr (o.getD d) (u.getD d'):=by
 cases o with
 | none=>cases u with
  | none=>exact rd
  | some _=>exact (show False from r).elim
 | some _=>cases u with
  | none=>exact (show False from r).elim
  | some _=>exact r
theorem KV.val {kvs:List (κ×V)} {vs:List (κ×Value)} (r:KV kvs vs) (k:κ):zF (yK kvs k) (valueAt vs k):=by
 unfold KV at r
 induction r with
 | nil=>exact True.intro
 | @cons p q ps qs h t ih =>
  obtain ⟨h1,h2⟩:=h
  by_cases e:p.1=k
  ·have e':q.1=k:=h1.symm.trans e;have b:valueAt (q :: qs) k=some q.2:=by simp [valueAt,List.find?_cons,e']
   rw [yU e,b];exact h2
  ·have e':¬ q.1=k:=fun z=>e (h1.trans z);have b:valueAt (q :: qs) k=valueAt qs k:=by simp [valueAt,List.find?_cons,e']
   rw [yM e,b];exact ih
theorem KV.any {kvs:List (κ×V)} {vs:List (κ×Value)} (r:KV kvs vs) (k:κ):(kvs.any fun kv=>decide (kv.1=k))=vs.any fun kv=>decide (kv.1=k):=by
 unfold KV at r
 induction r with
 | nil=>rfl
 | cons h t ih=>rw [List.any_cons,List.any_cons,ih,h.1]
theorem KV.repl {kvs:List (κ×V)} {vs:List (κ×Value)} (r:KV kvs vs) (k:κ) {y:V} {u:Value} (ry:jr y u) :
  KV (kvs.map fun kv=>if kv.1=k then (kv.1,y) else kv) (vs.map fun kv=>if kv.1=k then (kv.1,u) else kv):=by
 unfold KV at r ⊢
 induction r with
 | nil=>exact .nil
 | @cons p q ps qs h t ih =>
  rw [List.map_cons,List.map_cons];refine .cons ?_ ih;obtain ⟨h1,h2⟩:=h
  by_cases e:p.1=k
  ·rw [if_pos e,if_pos (h1.symm.trans e)];exact ⟨h1,ry⟩
  ·rw [if_neg e,if_neg (fun z=>e (h1.trans z))];exact ⟨h1,h2⟩
theorem KV.put {kvs:List (κ×V)} {vs:List (κ×Value)} (r:KV kvs vs) (k:κ) {y:V} {u:Value} (ry:jr y u):KV (yY kvs k y) (stored vs k u):=by
 unfold yY stored;rw [r.any k]
 by_cases e:(vs.any fun kv=>decide (kv.1=k))=true
 ·rw [if_pos e,if_pos e];exact r.repl k ry
 ·rw [if_neg e,if_neg e];exact Paired.snoc r ⟨rfl,ry⟩
theorem KV.length {kvs:List (κ×V)} {vs:List (κ×Value)} (r:KV kvs vs):kvs.length=vs.length:=Paired.length r
end
theorem kj {P:Program} {w:World} {k:Key} {u:Value} (r:jr (kV k) u):(qU P w).is k u=true:=by
 cases k with
 | inl i=>obtain ⟨t,e⟩:=(show ∃ t,u=Value.int i t from r);subst e;exact Qt P w i t
 | inr x=>obtain ⟨t,e⟩:=(show ∃ t,u=Value.str x t from r);subst e;exact Qp P w x t
theorem kW {P:Program} {w:World}:∀ {ks:List Key} {us:List Value},jw (ks.map kV) us→ItemsAre (qU P w) ks us
 | [],_,r=>by rw [List.map_nil] at r;cases r;exact .nil
 | k :: ks,_,r=>by
  rw [List.map_cons] at r;cases r with
  | cons h t=>exact .cons (kj h) (kW t)
abbrev KT (H:Hp):List (List Key×V)→List (List Key×Addr×Value)→Prop:=Paired fun p q=>p.1=q.1∧H q.2.1=some (.tup (p.1.map kV))∧jr p.2 q.2.2
theorem KT.val {H:Hp} {kvs:List (List Key×V)} {xs:List (List Key×Addr×Value)} (r:KT H kvs xs) (k:List Key):zF (yK kvs k) ((atKey xs k).map (·.2)):=by
 induction r with
 | nil=>exact True.intro
 | @cons p q ps qs h t ih =>
  obtain ⟨h1,_,h2⟩:=h
  by_cases e:p.1=k
  ·have e':q.1=k:=h1.symm.trans e;have b:atKey (q :: qs) k=some q.2:=by simp [atKey,List.find?_cons,e']
   rw [yU e,b];exact h2
  ·have e':¬ q.1=k:=fun z=>e (h1.trans z);have b:atKey (q :: qs) k=atKey qs k:=by simp [atKey,List.find?_cons,e']
   rw [yM e,b];exact ih
theorem KT.repl {H:Hp} {kvs:List (List Key×V)} {xs:List (List Key×Addr×Value)} (r:KT H kvs xs) (k:List Key) {y:V} {u:Value} (ry:jr y u) :
  KT H (kvs.map fun kv=>if kv.1=k then (kv.1,y) else kv) (xs.map (putAt k u)):=by
 induction r with
 | nil=>exact .nil
 | @cons p q ps qs h t ih =>
  rw [List.map_cons,List.map_cons];refine .cons ?_ ih;obtain ⟨h1,h2,h3⟩:=h;unfold putAt
  by_cases e:p.1=k
  ·rw [if_pos e,if_pos (h1.symm.trans e)];exact ⟨h1,h2,ry⟩
  ·rw [if_neg e,if_neg (fun z=>e (h1.trans z))];exact ⟨h1,h2,h3⟩
theorem KT.put {H:Hp} {kvs:List (List Key×V)} {xs:List (List Key×Addr×Value)} (r:KT H kvs xs) (k:List Key) {b:Addr} {y:V} {u:Value} (hb:H b=some (.tup (k.map kV))) (ry:jr y u) :
  KT H (yY kvs k y) (storedH xs k b u):=by
 have e:(kvs.any fun kv=>decide (kv.1=k))=(atKey xs k).isSome:=by
  rw [zd,(r.val k).isSome_eq,Option.isSome_map]
 unfold yY storedH;rw [e]
 by_cases q:(atKey xs k).isSome=true
 ·rw [if_pos q,if_pos q];exact r.repl k ry
 ·rw [if_neg q,if_neg q];exact Paired.snoc r ⟨rfl,hb,ry⟩
theorem KT.keeps {H H':Hp} {kvs:List (List Key×V)} {xs:List (List Key×Addr×Value)} (r:KT H kvs xs) (ht:∀ b ys,H b=some (.tup ys)→H' b=some (.tup ys)):KT H' kvs xs :=
 Paired.mapP r fun _ _ z=>⟨z.1,ht _ _ z.2.1,z.2.2⟩
section
variable {P:Program} {w:World} {H:Hp} {h:Heap} {a:Addr}
theorem Kf {u:HO} (ok:HOk P w H h) (e:Rd H a u):qM P w H h a u:=e.ok ok
theorem JE {kvs:List (Key×V)} (ok:HOk P w H h) (e:Rd H a (.dK kvs)):kvs.length≤sizeLine∧(a == sysModules)=false∧∃ vs,KV kvs vs∧h.DictOf (qU P w) a vs :=
 show qM P w H h a (.dK kvs) from Kf ok e
theorem Kg {kvs:List (Key×V)} (ok:HOk P w H h) (e:H a=some (.dK kvs)):kvs.length≤sizeLine∧(a == sysModules)=false∧∃ vs,KV kvs vs∧h.DictOf (qU P w) a vs:=JE ok (.inl e)
theorem vj {ks:List Key} (ok:HOk P w H h) (e:H a=some (.tup (ks.map kV))):(tupleKind (qU P w)).is h ks a:=by
 obtain ⟨_,its,r,o,h1,h2,n,h3⟩:=(show qM P w H h a (.tup (ks.map kV)) from ok a _ e);exact ⟨o,its.toArray,n,h1,h2,h3,by simpa using kW r⟩
theorem kg {kvs:List (List Key×V)} (ok:HOk P w H h) (e:Rd H a (.dT kvs)):kvs.length≤sizeLine∧(a == sysModules)=false ∧
  ∃ xs,KT H kvs xs∧h.DictOfH (tupleKind (qU P w)) a xs:=by
 obtain ⟨z,y,xs,r,o,es,ep,h1,h2,h3,h4,h5⟩:=(show qM P w H h a (.dT kvs) from Kf ok e);refine ⟨z,y,xs,r,o,es,ep,h1,h2,h3,h4,fun x hx=>?_,h5⟩;have all:∀ {l:List (List Key×V)} {m:List (List Key×Addr×Value)},KT H l m→∀ x∈m,(tupleKind (qU P w)).is h x.1 x.2.1:=by
  intro l m q
  induction q with
  | nil=>intro x hx;exact nomatch hx
  | @cons p q ps qs hq t ih =>
   intro x hx;rcases List.mem_cons.mp hx with e | hx
   ·subst e;exact vj ok (by rw [← hq.1];exact hq.2.1)
   ·exact ih x hx
 exact all r x hx
theorem VA {kvs:List (List Key×V)} (ok:HOk P w H h) (e:H a=some (.dT kvs)):kvs.length≤sizeLine∧(a == sysModules)=false ∧
  ∃ xs,KT H kvs xs∧h.DictOfH (tupleKind (qU P w)) a xs:=kg ok (.inl e)
end
def ym (H:Hp) (a:Addr) (y:V) (r:Option V):Prop :=
 (∃ kvs k,Rd H a (.dK kvs)∧y=kV k∧r=yK kvs k)∨∃ kvs k b,Rd H a (.dT kvs)∧y=.ref b∧H b=some (.tup (k.map kV))∧r=yK kvs k
def xE (H:Hp) (a:Addr) (y v:V) (H':Hp):Prop :=
 (∃ kvs k,H a=some (.dK kvs)∧y=kV k∧kvs.length < sizeLine∧H'=upd H a (.dK (yY kvs k v))) ∨
 ∃ kvs k b,H a=some (.dT kvs)∧y=.ref b∧H b=some (.tup (k.map kV))∧kvs.length < sizeLine∧H'=upd H a (.dT (yY kvs k v))
theorem ym.k {H:Hp} {a:Addr} {kvs:List (Key×V)} {k:Key} (e:H a=some (.dK kvs)):ym H a (kV k) (yK kvs k):=.inl ⟨kvs,k,.inl e,rfl,rfl⟩
theorem ym.t {H:Hp} {a b:Addr} {kvs:List (List Key×V)} {k:List Key} (e:H a=some (.dT kvs)) (eb:H b=some (.tup (k.map kV))):ym H a (.ref b) (yK kvs k):=.inr ⟨kvs,k,b,.inl e,rfl,eb,rfl⟩
theorem xE.k {H:Hp} {a:Addr} {kvs:List (Key×V)} {k:Key} {v:V} (e:H a=some (.dK kvs)) (hl:kvs.length < sizeLine):xE H a (kV k) v (upd H a (.dK (yY kvs k v))):=.inl ⟨kvs,k,e,rfl,hl,rfl⟩
theorem xE.t {H:Hp} {a b:Addr} {kvs:List (List Key×V)} {k:List Key} {v:V} (e:H a=some (.dT kvs)) (eb:H b=some (.tup (k.map kV))) (hl:kvs.length < sizeLine) :
  xE H a (.ref b) v (upd H a (.dT (yY kvs k v))):=.inr ⟨kvs,k,b,e,rfl,eb,hl,rfl⟩
section
variable {X:Cx} {pins:List (Addr×Obj)} {σ:St} {H:Hp} {s:Shared} {a:Addr} {y v:V} {u r:Value} {o:Option V} {A:Around} {E:Value→Shared→Prop}
theorem Inv.big (I:Inv X pins σ H s):sysModules < s.heap.objs.size:=by
 have h:mainGlobals < s.heap.objs.size:=(I.mod.glob.keeps I.bk).lt;exact Nat.lt_trans (by decide) h
theorem ZE {Q:Value→Shared→Prop} (hu:A.units+1 < cLine) (I:Inv X pins σ H s) (g:ym H a y (some v)) (ry:jr y u) (h:∀ w' s',Inv X pins σ H s'→jr v w'→Q w' s') :
  wpAny (model X.prog X.w) A (getItem (.ref a) u) Q E s:=by
 rcases g with ⟨kvs,k,e,ey,l⟩ | ⟨kvs,k,b,e,ey,eb,l⟩
 ·subst ey;obtain ⟨z,hd,vs,rel,dd⟩:=JE I.hok e;obtain ⟨w',hw,rw'⟩:=zF.some_of (v:=v) (o:=valueAt vs k) (by rw [l];exact rel.val k);exact wpAny_getItem_of (kj ry) dd.mapOf hw (h w' _ (I.tok _) rw')
 ·subst ey;cases (show u=Value.ref b from ry);obtain ⟨z,hd,xs,rel,dd⟩:=kg I.hok e;obtain ⟨w',hw,rw'⟩:=zF.some_of (v:=v) (o:=(atKey xs k).map (·.2)) (by rw [l];exact rel.val k);obtain ⟨p,hp,hp2⟩:=Option.map_eq_some_iff.mp hw;refine wpAny_getItem_heap (tupleKind_room_in1 hu) (vj I.hok eb) dd hp ?_;rw [hp2];exact h w' _ (I.tok _) rw'
theorem Xc {Q:Value→Shared→Prop} (hu:A.units+1 < cLine) (I:Inv X pins σ H s) (g:ym H a y o) (ry:jr y u) (h:∀ s',Inv X pins σ H s'→Q (.bool (!o.isSome)) s') :
  wpAny (model X.prog X.w) A (compareOp .NotIn u (.ref a)) Q E s:=by
 rcases g with ⟨kvs,k,e,ey,l⟩ | ⟨kvs,k,b,e,ey,eb,l⟩
 ·subst ey;obtain ⟨z,hd,vs,rel,dd⟩:=JE I.hok e;refine wpAny_notIn_of (kj ry) hd dd.mapOf ?_;rw [← (rel.val k).isSome_eq,← l];exact h _ (I.tok _)
 ·subst ey;cases (show u=Value.ref b from ry);obtain ⟨z,hd,xs,rel,dd⟩:=kg I.hok e;refine wpAny_notIn_heap (tupleKind_room_in1 hu) (vj I.hok eb) hd dd ?_;have q:=(rel.val k).isSome_eq;rw [Option.isSome_map] at q;rw [← q,← l];exact h _ (I.tok _)
theorem vP {h':Heap} {t':Nat} {ob:HO} (I:Inv X pins σ H s) (mu:Mut (H a)) (hs:Heap.SameBut a s.heap h') (he:∃ q,h'.get? a=some q) (new:qM X.prog X.w (upd H a ob) h' a ob) :
  Inv X pins σ (upd H a ob) { s with heap:=h',toks:=t' } :=
 I.write (x:=a) (e:=a) mu (.inl rfl) (fun b q hb z=>(hs.2 b hb).trans z) he new
theorem Zj {P:Program} {w:World} {H':Hp} {h':Heap} {kvs:List (Key×V)} {vs:List (Key×Value)} (z:kvs.length≤sizeLine) (hd:(a == sysModules)=false) (rel:KV kvs vs) (dd:h'.DictOf (qU P w) a vs) :
  qM P w H' h' a (.dK kvs):=⟨z,hd,vs,rel,dd⟩
theorem Zb {H':Hp} {Q:Unit→Shared→Prop} (hu:A.units+1 < cLine) (I:Inv X pins σ H s) (g:xE H a y v H') (ry:jr y u) (rv:jr v r) (h:∀ s',Inv X pins σ H' s'→Q () s') :
  wpAny (model X.prog X.w) A (setItem (.ref a) u r) Q E s:=by
 rcases g with ⟨kvs,k,e,ey,l,eH⟩ | ⟨kvs,k,b,e,ey,eb,l,eH⟩
 ·subst ey eH;obtain ⟨z,hd,vs,rel,dd⟩:=Kg I.hok e;have hz:vs.length≤sizeLine:=by rw [← rel.length];exact z
  have hl:(yY kvs k v).length≤sizeLine:=by have:=yu kvs k v;omega
  refine wpAny_setItem_pairs (hsz:=hz) (kj ry) dd fun h' dd' hs=>h _ ?_;have he:∃ q,h'.get? a=some q:=let ⟨q,_,_,hq,_⟩:=dd';⟨q,hq⟩;exact vP I (by rw [e];exact True.intro) hs he (Zj hl hd (rel.put k rv) dd')
 ·subst ey eH;cases (show u=Value.ref b from ry);obtain ⟨z,hd,xs,rel,dd⟩:=VA I.hok e;have hz:xs.length≤sizeLine:=by rw [← Paired.length rel];exact z
  have hl:(yY kvs k v).length≤sizeLine:=by have:=yu kvs k v;omega
  refine wpAny_setItem_heap (hsz:=hz) (tupleKind_room_in1 hu) (vj I.hok eb) dd fun h' dd' hs=>h _ ?_;obtain ⟨q,es,ep,hq,h2,h3,h4,_,h5⟩:=dd';refine vP I (by rw [e];exact True.intro) hs ⟨q,hq⟩ ⟨hl,hd,_,(rel.put k eb rv).keeps fun c ys ec=>?_,q,es,ep,hq,h2,h3,h4,h5⟩;rw [j5 (vR ec e (fun z=>nomatch z))];exact ec
end
section
variable {X:Cx} {pins:List (Addr×Obj)} {σ:St} {H:Hp} {s:Shared} {a:Addr} {kvs:List (Key×V)} {k:Key} {u:Value} {A:Around} {E:Value→Shared→Prop}
end
def Uj (i:Expr):Prop:=∀ ov iv,subscripted i false ov iv=operate [ov,iv] (getItem ov iv)
theorem Ya {prog:Program} {w:World} {A:Around} {E:Value→Shared→Prop} {s:Shared} {env:Env} {value slice:Expr} {pos:Pos} {T id:String} {Q:Value→Shared→Prop}
  (hl:typeLookup (.type T) "__getitem__"=pure (some (.builtin id))) (hs:Uj slice)
  (h:wpAny (model prog w) A (eval value env) (fun o s₁=>wpAny (model prog w) A (eval slice env) (fun i s₂=>s₂.TypeIs o T∧wpAny (model prog w) A (getItem o i) Q E s₂) E s₁) E s) :
  wpAny (model prog w) A (eval (.Subscript value slice pos) env) Q E s:=by
 refine Subscript_ (wpAny_mono h (fun o s₁ h₁=>wpAny_mono h₁ (fun i s₂ h₂=>?_) fun _ _ x=>x) fun _ _ x=>x);obtain ⟨hT,h₂⟩:=h₂;unfold subscriptTail;refine wpAny_bind ?_;rw [getitemInPython_of_ne hT.not_modules];refine wpAny_bind (wpAny_specialOf hT hl ?_);have fin:wpAny (model prog w) A (subscripted slice false o i) (fun r s₃=>wpAny (model prog w) A (letTemporaryGo value o r >>= fun _=>pure r) Q E s₃) E s₂:=by
  rw [hs o i];exact wpAny_operating (wpAny_mono h₂ (fun r s₃ h₃=>wpAny_bind (wpAny_letTemporaryGo (wpAny_pure h₃))) fun _ _ x=>x)
 first
  | exact wpAny_pure (wpAny_bind fin)
  | exact wpAny_bind (wpAny_pure (wpAny_bind fin))
  | exact wpAny_bind fin
theorem Qa {X:Cx} {pins:List (Addr×Obj)} {σ:St} {H:Hp} {s:Shared} {a:Addr} {y:V} {o:Option V} (I:Inv X pins σ H s) (g:ym H a y o):s.TypeIs (.ref a) "dict":=by
 rcases g with ⟨kvs,k,e,_,_⟩ | ⟨kvs,k,b,e,_,_,_⟩
 ·obtain ⟨_,_,vs,_,dd⟩:=JE I.hok e;exact dd.typeIs
 ·obtain ⟨_,_,xs,_,dd⟩:=kg I.hok e;exact dd.typeIs
def Xy (td ty:TE):TE:=fun σ H Q=>td σ H fun x H1=>ty σ H1 fun y H2=>∃ a v,x=.ref a∧ym H2 a y (some v)∧Q v H2
def YW (ty td:TE):TE:=fun σ H Q=>ty σ H fun y H1=>td σ H1 fun x H2=>∃ a o,x=.ref a∧ym H2 a y o∧Q (.bl (!o.isSome)) H2
def KI (td ty tv:TE):TS:=fun D σ H=>tv σ H fun v H1=>td σ H1 fun x H2=>ty σ H2 fun y H3=>∃ a H4,x=.ref a∧xE H3 a y v H4∧D.nx σ H4
section
variable {X:Cx} {o i e value:Expr} {pos pos' tpos:Pos} {td ty tv:TE}
theorem Yy (hu:X.A.units+1 < cLine) (ho:PE X o td) (hi:PE X i ty) (hs:Uj i):PE X (.Subscript o i pos) (Xy td ty):=by
 intro pins s σ H Q I h;refine Ya PySem.F.slot_dict_getitem.lookup hs (thn (ho pins s σ H _ I h) fun u s1 ⟨x,H1,I1,rx,q1⟩=>thn (hi pins s1 σ H1 _ I1 q1) fun iv s2 ⟨y,H2,I2,ry,a,v,ex,g,q2⟩=>?_);subst ex;obtain rfl:u=Value.ref a:=rx;exact ⟨Qa I2 g,ZE hu I2 g ry fun w' s3 I3 rw'=>⟨v,H2,I3,rw',q2⟩⟩
theorem vn (hu:X.A.units+1 < cLine) (hi:PE X i ty) (ho:PE X o td):PC X .NotIn i o (YW ty td):=by
 intro pins s σ H Q I h;refine thn (hi pins s σ H _ I h) fun iv s1 ⟨y,H1,I1,ry,q1⟩=>thn (ho pins s1 σ H1 _ I1 q1) fun u s2 ⟨x,H2,I2,rx,a,ov,ex,g,q2⟩=>?_;subst ex;obtain rfl:u=Value.ref a:=rx;exact Xc hu I2 g ry fun s3 I3=>⟨.bl (!ov.isSome),H2,I3,rfl,q2⟩
theorem vO (hu:X.A.units+1 < cLine) (ho:PE X o td) (hi:PE X i ty) (hv:PE X value tv) (hs:swapsWith value (some (.Subscript o i pos')) pos.line X.env=pure false) :
  PS X (.Assign [.Subscript o i pos'] value pos) (KI td ty tv):=by
 intro pins s σ H D I h;refine wpAny_Assign_Subscript (thn (hv pins s σ H _ I h) fun r s1 ⟨v,H1,I1,rv,q1⟩=>thn (ho pins s1 σ H1 _ I1 q1) fun u s2 ⟨x,H2,I2,rx,q2⟩=>thn (hi pins s2 σ H2 _ I2 q2) fun iv s3 ⟨y,H3,I3,ry,a,H4,ex,g,q3⟩=>?_) hs;subst ex;obtain rfl:u=Value.ref a:=rx;exact Zb hu I3 g ry rv fun s4 I4=>⟨σ,H4,I4,q3⟩
end
theorem Vt {P:Program} {w:World} {H:Hp} (h:Heap) (hb:sysModules < h.objs.size):qM P w H (h.push { cls:=.type "dict",data:=.dict #[] }) h.objs.size (.dK []) :=
 ⟨Nat.zero_le _,beq_eq_false_iff_ne.mpr (Ne.symm (Nat.ne_of_lt hb)),[],.nil,Heap.DictOf.new h⟩
theorem QY {P:Program} {w:World} {H:Hp} (h:Heap) (hb:sysModules < h.objs.size):qM P w H (h.push { cls:=.type "dict",data:=.dict #[] }) h.objs.size (.dT []) :=
 ⟨Nat.zero_le _,beq_eq_false_iff_ne.mpr (Ne.symm (Nat.ne_of_lt hb)),[],.nil,_,#[],0,Heap.get?_push_size _ rfl,⟨rfl,rfl,rfl⟩,rfl,rfl,List.nodup_nil⟩
def Zi:TE:=fun _ H Q=>∀ p,H p=none→Q (.ref p) (upd H p (.dT []))
section
variable {X:Cx} {pos:Pos}
theorem Qk:PE X (.Dict [] [] pos) Zi:=fun pins s σ H Q I h =>
 wpAny_Dict_empty ⟨.ref s.heap.objs.size,_,I.laid (a:=s.heap.objs.size) (o:=.dT []) (t':=s.toks) (fun _ _ q=>Heap.get?_push_of_some _ q) (Nat.le_refl _) (QY s.heap I.big),rfl,h _ (I.hok.fresh (Nat.le_refl _))⟩
end
def YH:List (TE×TE)→St→Hp→(List (V×V)→Hp→Prop)→Prop
 | [],_,H,Q=>Q [] H
 | (tk,tv) :: r,σ,H,Q=>tk σ H fun x H1=>tv σ H1 fun y H2=>YH r σ H2 fun ps H3=>Q ((x,y) :: ps) H3
abbrev VV:List (V×V)→List (Value×Value)→Prop:=Paired fun p q=>jr p.1 q.1∧jr p.2 q.2
def PPs (X:Cx) (pos:Pos) (keys:List (Option Expr)) (values:List Expr) (trs:List (TE×TE)):Prop :=
 ∀ (pins:List (Addr×Obj)) (s:Shared) (σ:St) (H:Hp) (Q:List (V×V)→Hp→Prop),Inv X pins σ H s→YH trs σ H Q →
  wpAny (model X.prog X.w) X.A (evalPairs (pairTrees keys values X.env pos)) (fun vs s'=>∃ ps H',Inv X pins σ H' s'∧VV ps vs∧Q ps H') X.xe s
theorem Xk {X:Cx} {pos:Pos}:PPs X pos [] [] []:=fun pins s σ H Q I h=>pairTrees_nil_walk ⟨[],H,I,.nil,h⟩
theorem VB {X:Cx} {pos:Pos} {k v:Expr} {ks:List (Option Expr)} {vs:List Expr} {tk tv:TE} {trs:List (TE×TE)} (hk:PE X k tk) (hv:PE X v tv) (hr:PPs X pos ks vs trs) :
  PPs X pos (some k :: ks) (v :: vs) ((tk,tv) :: trs):=fun pins s σ H Q I h =>
 pairTrees_cons_walk (thn (hk pins s σ H _ I h) fun u s1 ⟨x,H1,I1,rx,q1⟩=>thn (hv pins s1 σ H1 _ I1 q1) fun w2 s2 ⟨y,H2,I2,ry,q2⟩ =>
  thn (hr pins s2 σ H2 _ I2 q2) fun ws s3 ⟨ps,H3,I3,rel,q3⟩=>⟨(x,y) :: ps,H3,I3,.cons ⟨rx,ry⟩ rel,q3⟩)
def vh (kvs more:List (Key×V)):List (Key×V):=more.foldl (fun acc kv=>yY acc kv.1 kv.2) kvs
theorem KV.merge:∀ {more:List (Key×V)} {rs:List (Key×Value)} {kvs:List (Key×V)} {vs:List (Key×Value)},KV more rs→KV kvs vs→KV (vh kvs more) (merged vs rs):=by
 intro more rs kvs vs r;unfold KV at r
 induction r generalizing kvs vs with
 | nil=>intro q;exact q
 | @cons p q ps qs h t ih =>
  intro r0;have e:KV (yY kvs p.1 p.2) (stored vs q.1 q.2):=by
   have:=r0.put p.1 h.2;rw [← h.1];exact this
  exact ih e
theorem zz:∀ (more kvs:List (Key×V)),(vh kvs more).length≤kvs.length+more.length
 | [],kvs=>by show kvs.length≤kvs.length+0;omega
 | p :: r,kvs=>by
  have h1:=zz r (yY kvs p.1 p.2);have h2:=yu kvs p.1 p.2;show (vh (yY kvs p.1 p.2) r).length≤_;rw [List.length_cons];omega
theorem xl {P:Program} {w:World}:∀ {kvs:List (Key×V)} {ws:List (Value×Value)},VV (kvs.map fun kv=>(kV kv.1,kv.2)) ws→∃ rs,Carries (qU P w) ws rs∧KV kvs rs
 | [],_,r=>by rw [List.map_nil] at r;cases r;exact ⟨[],True.intro,.nil⟩
 | p :: kvs,_,r=>by
  rw [List.map_cons] at r;cases r with
  | @cons a b as bs h t =>
   obtain ⟨rs,c,q⟩:=xl (P:=P) (w:=w) t;obtain ⟨b1,b2⟩:=b;exact ⟨(p.1,b2) :: rs,⟨kj h.1,rfl,c⟩,.cons ⟨rfl,h.2⟩ q⟩
def KM (trs:List (TE×TE)):TE:=fun σ H Q=>∀ p,H p=none→YH trs σ (upd H p (.dK [])) fun ps H2=>H2 p=some (.dK [])∧∃ kvs:List (Key×V),ps=kvs.map (fun kv=>(kV kv.1,kv.2))∧kvs.length≤15∧Q (.ref p) (upd H2 p (.dK (vh [] kvs)))
theorem X5 {X:Cx} {pos:Pos} {keys:List (Option Expr)} {values:List Expr} {trs:List (TE×TE)} (h:PPs X pos keys values trs) (hall:keys.all (·.isSome)=true) (hl:keys.length=values.length) (h0:keys≠[])
  (h15:keys.length≤15):PE X (.Dict keys values pos) (KM trs):=by
 intro pins s σ H Q I q;have hn:=I.hok.fresh (Nat.le_refl s.heap.objs.size);have I1:=I.laid (a:=s.heap.objs.size) (o:=.dK []) (h':=s.heap.push { cls:=.type "dict",data:=.dict #[] }) (t':=s.toks) (fun _ _ q=>Heap.get?_push_of_some _ q) (Nat.le_refl _) (Vt s.heap I.big);refine wpAny_Dict_walk (knd:=qU X.prog X.w) hall hl h0 h15 (thn (h pins _ σ _ _ I1 (q _ hn)) fun ws s2 ⟨ps,H2,I2,rel,e,kvs,ep,lk,q2⟩=>?_);subst ep;obtain ⟨rs,c,rk⟩:=xl (P:=X.prog) (w:=X.w) rel;obtain ⟨z,hd,vs0,r0,dd⟩:=Kg I2.hok e;cases r0;refine ⟨rs,c,dd,fun h' dd' hs=>⟨.ref s.heap.objs.size,_,?_,rfl,q2⟩⟩;have hz:(vh [] kvs).length≤sizeLine:=by
  have h1:=zz kvs [];rw [List.length_nil] at h1;rw [sizeLine_eq];omega
 have he:∃ q,h'.get? s.heap.objs.size=some q:=let ⟨q,_,_,hq,_⟩:=dd';⟨q,hq⟩;exact vP I2 (by rw [e];exact True.intro) hs he (Zj hz hd (rk.merge .nil) dd')
structure M1 (X:Cx) (o:Expr) (m:Str) (apos:Pos) (e:Expr) (cpos:Pos):Prop where
 base:attributeBase o m X.env (eval o X.env)=eval o X.env
 few:((backTo cpos (starEach [e] X.env)).all (fun x=>!x.1) && (backToKw cpos (keywordEach [] X.env)).all (fun x=>x.1.isSome)
  && decide (([e]:List Expr).length+([]:List Keyword).length+(if ([]:List Keyword).isEmpty then 0 else 1) < 30))=true
 line:(apos.endLine == cpos.line)=true
 trees:backTo cpos (starEach [e] X.env)=[(false,eval e X.env)]
def IsD (H:Hp) (a:Addr):Prop:=(∃ kvs,Rd H a (.dK kvs))∨∃ kvs,Rd H a (.dT kvs)
theorem Uc {X:Cx} {pins:List (Addr×Obj)} {σ:St} {H:Hp} {s:Shared} {a:Addr} (I:Inv X pins σ H s) (d:IsD H a) :
  s.TypeIs (.ref a) "dict"∧(∀ b,Value.ref a=.ref b→∃ ob,s.heap.get? b=some ob∧ob.dict=none)∧(a == sysModules)=false:=by
 rcases d with ⟨kvs,e⟩ | ⟨kvs,e⟩
 ·obtain ⟨_,hd,vs,_,dd⟩:=JE I.hok e;refine ⟨dd.typeIs,fun b q=>?_,hd⟩;cases q;obtain ⟨ob,_,_,h1,h2,_⟩:=dd;exact ⟨ob,h1,h2.2.1⟩
 ·obtain ⟨_,hd,xs,_,dd⟩:=kg I.hok e;refine ⟨dd.typeIs,fun b q=>?_,hd⟩;cases q;obtain ⟨ob,_,_,h1,h2,_⟩:=dd;exact ⟨ob,h1,h2.2.1⟩
section
variable {X:Cx} {pins:List (Addr×Obj)} {σ:St} {H:Hp} {s:Shared} {a:Addr} {y d:V} {u r:Value} {o:Option V} {A:Around} {E:Value→Shared→Prop}
theorem Kq {Q:Value→Shared→Prop} (hu:A.units+1 < cLine) (I:Inv X pins σ H s) (g:ym H a y o) (ry:jr y u) (h:∀ w' s',Inv X pins σ H s'→jr (o.getD .non) w'→Q w' s') :
  wpAny (model X.prog X.w) A (call (.builtin "dict.get") [.ref a,u]) Q E s:=by
 rcases g with ⟨kvs,k,e,ey,l⟩ | ⟨kvs,k,b,e,ey,eb,l⟩
 ·subst ey;obtain ⟨z,hd,vs,rel,dd⟩:=JE I.hok e;refine call_meetsIn PySem.F.slot_dict_get dd.typeIs PySem.F.entry_dict_get (PySem.F.args_dict_get_2 _ _) (meets_dict_get (qU X.prog X.w) a (kj ry) hd) ⟨_,dd.mapOf,h _ _ (I.tok _) ?_⟩;rw [l];exact (rel.val k).getD rfl
 ·subst ey;cases (show u=Value.ref b from ry);obtain ⟨z,hd,xs,rel,dd⟩:=kg I.hok e;refine call_meetsIn PySem.F.slot_dict_get dd.typeIs PySem.F.entry_dict_get (PySem.F.args_dict_get_2 _ _) (meetsH_dict_get (tupleKind (qU X.prog X.w)) a b hd) ⟨tupleKind_room_in1 hu,k,xs,vj I.hok eb,dd,h _ _ (I.tok _) ?_⟩;rw [l];exact (rel.val k).getD rfl
end
def VT (td ty:TE):TE:=fun σ H Q=>td σ H fun x H1=>∃ a,x=.ref a∧IsD H1 a∧ty σ H1 fun y H2=>∃ o,ym H2 a y o∧Q (o.getD .non) H2
section
variable {X:Cx} {o e f:Expr} {apos cpos:Pos} {td ty tx:TE}
theorem QU (hu:X.A.units+1 < cLine) (ho:PE X o td) (he:PE X e ty) (m:M1 X o "get" apos e cpos):PE X (.Call (.Attribute o "get" apos) [e] [] cpos) (VT td ty):=by
 intro pins s σ H Q I h;refine wpAny_Call_method m.base m.few m.line PySem.F.plainAttrs_dict PySem.F.slot_dict_get PySem.F.type_dict_get (thn (ho pins s σ H _ I h) fun u s1 ⟨x,H1,I1,rx,a,ex,d,q1⟩=>?_);subst ex;obtain rfl:u=Value.ref a:=rx;obtain ⟨t1,t2,_⟩:=Uc I1 d;refine ⟨t1,t2,?_⟩;rw [m.trees];refine Calls.callWith_builtin rfl (Calls.evalArgs_plain (Calls.spliced_cons (thn (he pins s1 σ H1 _ I1 q1) fun iv s2 ⟨y,H2,I2,ry,ov,g,q2⟩=>Calls.spliced_nil ?_)));exact Kq hu I2 g ry fun w' s3 I3 rw'=>⟨_,H2,I3,rw',q2⟩
end
section
variable {X:Cx} {pins:List (Addr×Obj)} {σ:St} {H:Hp} {s:Shared} {a:Addr} {kvs:List (Key×V)} {A:Around} {E:Value→Shared→Prop}
end
section
variable {X:Cx} {pins:List (Addr×Obj)} {σ:St} {H:Hp} {s:Shared} {a:Addr} {y:V} {u:Value} {A:Around} {E:Value→Shared→Prop}
end
end L2
namespace Att
open PySem PySem.W PySem.Calls PyProof.Rows
theorem xD {P:Params} {h:Heap}:∀ (ns:List Int) (vs:List Value),WellAll P h vs (ns.map WData.int)→IntsAre vs ns:=by
 intro ns
 induction ns with
 | nil =>
  intro vs w;rw [List.map_nil] at w;cases w;exact .nil
 | cons n ns ih =>
  intro vs w;rw [List.map_cons] at w;cases w with
  | cons a b =>
   cases a;exact .cons _ _ (ih _ b)
theorem ZR {l:OpenLaw} {n:Nat} (hn:l.most=some n) {P:Params} {h:Heap} {args:List WData} {vals:List Value}
  (hpre:l.row.toRowW.claim.pre args=true) (hwl:WellAll P h vals args) :
  ∃ a vs ns,vals=[Value.ref a]∧args=[WData.list (ns.map WData.int)]∧h.get? a=some { cls:=.type "list",data:=.seq vs.toArray }∧IntsAre vs ns∧ns.length≤n:=by
 have hsh:WShape.hasAll [] args [.list .int]=true:=(pre_splitW hpre).1;have hc:l.pre.holds [] { args:=args }=true:=(pre_splitW hpre).2;obtain ⟨d,r,rfl,h1,h2⟩:=hasAllW_cons hsh;obtain rfl:=hasAllW_nil h2;obtain ⟨xs,rfl,h3⟩:=hasW_list h1;obtain ⟨ns,rfl⟩:=items_int h3;have hlen:ns.length≤n:=by
  unfold OpenLaw.pre at hc;have h4:(WTm.not (.lt (.lit (.int (n:Int))) (.len (.arg 0)))).holds [] { args:=[.list (ns.map .int)] }=true:=by
   have h4:=(holds_andW hc).1;rw [hn] at h4;exact h4
  have h5:=condW_of h4 (w_not (w_lt w_lit (w_len_list (w_arg rfl))));rw [List.length_map] at h5;refine Nat.le_of_not_lt fun q=>?_;have q':(n:Int) < ((ns.length:Nat):Int):=by omega
  first
   | (rw [decide_eq_true q'] at h5;exact absurd h5 (by decide))
   | (simp at h5;omega)
 cases hwl with
 | cons w1 w2 =>
  cases w2;cases w1 with
  | list ho hall=>exact ⟨_,_,ns,rfl,rfl,ho,xD ns _ hall,hlen⟩
theorem Z6 (l:OpenLaw) (args:List WData):l.row.toRowW.claim.post args (.bool true) args=true :=
 postW_of (r:=l.row.toRowW) (X:=(true == true))
  (show WShape.has [] (.bool true) .bool=true by first | rfl | decide | simp [WShape.has,WShape.arms,WShape.armsAll])
  (show (WTm.eq .res (.lit (.bool true))).value [] { args:=args,res:=some (.bool true),after:=args }=some (.bool (true == true)) from w_eq_bool (w_res rfl) w_lit) rfl
theorem attach_call {l:OpenLaw} {n:Nat} {q:Program} {loose:List Str} {XP:(Str→Option Value)→Heap→Prop} {YP:World→Heap→Prop} {d:DefRec}
  (hn:l.most=some n) (hdf:d.params.defaults=[])
  (call:∀ (w:World) (s₀ s₁:Shared) (mg mb:Str→Option Value) (fa:Addr) (o:Obj) (pm cd doc:Value) (a:Addr) (vs:List Value) (ns:List Int),
   Ground q loose [] XP w s₀ mg mb s₁.heap→YP w s₁.heap →
   s₁.heap.get? fa=some o→o.data=.func (docDef d.name d.params d.body d.scope pm cd doc)→s₁.heap.CodeRec cd d.name→mg d.name=some (.ref fa) →
   s₁.heap.get? a=some { cls:=.type "list",data:=.seq vs.toArray }→IntsAre vs ns→ns.length≤n→s₁.gens=#[] →
   codeAny (model l.prog w) callerA (.call (.ref fa) ⟨[.ref a],[]⟩) (fun r s'=>r=.ok (.ret (.bool true))∧OldK s₁.heap s'.heap∧s'.os=s₁.os∧AllBare s'.gens) s₁) :
  WalkO q loose XP YP l.row.toRowW d [] (fun f vs=>PySem.call f vs):=by
 intro w s₀ s₁ mg mb G Y fa o pm cd doc dV kV ho hd hcd hD hmg hg args vals as hpre hlay hrd hwl hlo;obtain rfl:dV=.none:=Dflts.none hD hdf;obtain rfl:kV=.none:=Dflts.noKw hD;obtain ⟨a,vs,ns,rfl,rfl,hobj,hints,hlen⟩:=ZR hn hpre hwl;refine enter_call (codeAny_mono (call w s₀ s₁ mg mb fa o pm cd doc a vs ns G Y ho (fd_plain hd) hcd hmg hobj hints hlen hg) fun r s' hq=>?_);obtain ⟨rfl,h2,h3,h4⟩:=hq;exact ⟨.inl ⟨.bool true,.bool true,[],rfl,fun _=>rfl,.bool true,Z6 l _,fun _=>⟨List.Pairwise.nil,fun _ hm=>(nomatch hm)⟩⟩,h2,h3,h4⟩
section
variable {prog:Program} {w:World} {A:Around} {E:Value→Shared→Prop} {s:Shared} {K:Frag}
end
end Att
namespace L2
open PySem PySem.Spec PyProof.Rows
theorem JF:∀ {vs:List Value} {ns:List Int},IntsAre vs ns→jw (ns.map V.int) vs
 | _,_,.nil=>.nil
 | _,_,.cons n t h=>.cons ⟨t,rfl⟩ (JF h)
def XD (H:Hp):Prop:=∀ b,H b=none∨∃ o xs,H b=some (.frz o (.lst xs))
theorem Vi {P:Program} {w:World} {K:PySem.W.Frag} {mg mb:Str→Option Value} {CX:CXT} {k:Nat} {fa a:Addr} {fd:FuncData} {x:Str} {sp:Sp} {s₁:Shared} {vs:List Value} {ns:List Int}
  (KX:K.In s₁.heap) (hns:s₁.heap.Ns mainGlobals mg) (hb:s₁.heap.Ns builtinsNs mb) (hbb:∀ x:Str,x≠"__name__"→mb x=bootBuiltins x) (hlim:s₁.heap.NoLimit) (hg:s₁.gens=#[])
  (ha:s₁.heap.get? a=some { cls:=.type "list",data:=.seq vs.toArray }) (hi:IntsAre vs ns) (hl:ns.length≤sizeLine) (hr:yB k callerA)
  (F:∀ base:Heap,K.In base→base.Ns mainGlobals mg→qE P w K mg base CX k fa fd [x] sp) (hbind:∀ (s:Shared) (u:Value),BindsTo s fd ⟨[u],[]⟩ [(x,u)])
  (hsp:∀ H:Hp,XD H→SqL K H a (ns.map V.int)→sp [.ref a] H (fun v _=>v=.bl true) fun _ _ _=>False)
  (hCX:∀ H e s',CX [] H s₁ (fun _ _ _=>False) e s'→False) :
  codeAny (model P w) callerA (.call (.ref fa) ⟨[.ref a],[]⟩) (fun r s'=>r=.ok (.ret (.bool true))∧OldK s₁.heap s'.heap∧s'.os=s₁.os∧AllBare s'.gens) s₁:=by
 have rv:=JF hi;have lenV:=hi.length;have core:∀ H:Hp,XD H→SqL K H a (ns.map V.int)→HOk P w H s₁.heap→(∀ b,H b≠none→b=a)→(H a≠none→K.lookup a=none) →
   codeAny (model P w) callerA (.call (.ref fa) ⟨[.ref a],[]⟩) (fun r s'=>r=.ok (.ret (.bool true))∧OldK s₁.heap s'.heap∧s'.os=s₁.os∧AllBare s'.gens) s₁:=by
  intro H hO hS hok hA hK;have base_of:∀ {b:Addr} {o:Obj},s₁.heap.get? b=some o→H b=none→(Jo s₁.heap H).get? b=some o:=fun e n=>VO e n;have noA:∀ {b:Addr} {o:Obj} {es:Array DictEntry} {ep:Nat},s₁.heap.get? b=some o→o.data=.dict es ep→H b=none:=fun {b o es ep} e d=>by
   cases q:H b with
   | none=>rfl
   | some u =>
    have e':b=a:=hA b (by rw [q];simp);subst e';rw [ha] at e;cases e;have d':Data.seq vs.toArray _=Data.dict es ep:=d;cases d'
  have nsK:∀ {b:Addr} {m:Str→Option Value},s₁.heap.Ns b m→(Jo s₁.heap H).Ns b m:=fun {b m} ⟨o,es,ep,e,d,r⟩=>⟨o,es,ep,base_of e (noA e d),d,r⟩;have hKb:K.In (Jo s₁.heap H):=fun b o e=>base_of (KX b o e) (by
   cases q:H b with
   | none=>rfl
   | some u =>
    have e':b=a:=hA b (by rw [q];simp);subst e';rw [hK (by rw [q];simp)] at e;cases e)
  have hM:Mod K mg (Jo s₁.heap H):=⟨hKb,nsK hns,⟨mb,nsK hb,hbb⟩,let ⟨mc,h1,h2⟩:=hlim;⟨mc,nsK h1,h2⟩⟩;have e0:YS P w K mg (Jo s₁.heap H) callerA [] s₁ H:=⟨rfl,hM,fun b o e=>X2 e,Nat.le_of_eq (ZS _ _),trivial,fun b hb=>absurd (show b∈([]:List Addr) from hb) (by simp),hok,.of_eq hg⟩;refine codeAny_mono ((F _ hKb (nsK hns)).run callerA [] s₁ H ⟨[.ref a],[]⟩ [.ref a] [.ref a] _ _ hr e0 (hbind s₁ (.ref a)) (.cons rfl .nil) (hsp H hO hS)) fun r s' h=>?_;cases r with
  | error e=>exact (hCX H e s' h).elim
  | ok fl =>
   cases fl with
   | next=>exact False.elim h
   | brk=>exact False.elim h
   | cont=>exact False.elim h
   | ret u =>
    obtain ⟨v,H',os,bare,un,hok',r',q⟩:=h;have q':v=.bl true:=q;subst q';obtain rfl:u=Value.bool true:=r';refine ⟨rfl,OldK.of_keep fun b o e=>?_,os,bare⟩;cases q:H b with
    | none=>exact un.keep b o e q (by intro z;exact absurd (show b∈([]:List Addr) from z) (by simp)) (by simp)
    | some u =>
     rcases hO b with z | ⟨ob,xs,z⟩
     ·rw [q] at z;cases z
     ·have z2:=un.frzs b ob _ z;obtain ⟨e1,_⟩:=hok b _ z;obtain ⟨e2,_⟩:=hok' b _ z2;rw [e] at e1;cases e1;exact e2
 cases hk:K.lookup a with
 | some o =>
  have e:=KX a o hk;rw [ha] at e;cases e;refine core (fun _=>none) (fun _=>.inl rfl) (.inr ⟨_,vs.toArray,_,hk,rfl,rfl,rfl,by rw [List.size_toArray,lenV];exact hl,by simpa using rv⟩) (fun b u z=>by have z':(none:Option HO)=some u:=z;cases z') (fun b z=>absurd rfl z) fun z=>absurd rfl z
 | none =>
  refine core (fun b=>if b=a then some (.frz { cls:=.type "list",data:=.seq vs.toArray } (.lst (ns.map V.int))) else none) (fun b=>?_) (.inl (.inr ⟨{ cls:=.type "list",data:=.seq vs.toArray },if_pos rfl⟩)) (fun b u z=>?_) (fun b z=>?_) fun _=>hk
  ·by_cases hb:b=a
   ·exact .inr ⟨_,_,if_pos hb⟩
   ·exact .inl (if_neg hb)
  ·by_cases hb:b=a
   ·have z':=(if_pos hb).symm.trans z;cases z';subst hb;exact ⟨ha,by rw [List.length_map];exact hl,vs,_,rv,ha⟩
   ·have z':=(if_neg hb).symm.trans z;cases z'
  ·by_cases hb:b=a
   ·exact hb
   ·exact absurd (if_neg hb) z
end L2
namespace L2
open PySem PySem.Spec PyProof.Rows
abbrev KOf {K:PySem.W.Frag} {h:Heap} (_:K.In h):PySem.W.Frag:=K
theorem XZ {l:PySem.W.OpenLaw} {n k:Nat} {q:Program} {loose:List Str} {XP:(Str→Option Value)→Heap→Prop} {YP:World→Heap→Prop} {d:DefRec} {K:Params→PySem.W.Frag} {CX:World→CXT} {sp:World→Sp} {x:Str}
  (hn:l.most=some n) (hn2:n≤sizeLine) (hdf:d.params.defaults=[]) (hr:yB k callerA)
  (hY:∀ (w:World) (h:Heap),YP w h→(K w.params).In h)
  (F:∀ (w:World) (mg:Str→Option Value) (fa:Addr) (h:Heap),(K w.params).In h→h.Ns mainGlobals mg→mg d.name=some (.ref fa) →
   ∃ fd:FuncData,(∀ (s:Shared) (u:Value),BindsTo s fd ⟨[u],[]⟩ [(x,u)]) ∧
    ∀ base:Heap,(K w.params).In base→base.Ns mainGlobals mg→qE l.prog w (K w.params) mg base (CX w) k fa fd [x] (sp w))
  (hsp:∀ (w:World) (H:Hp) (a:Addr) (ns:List Int),ns.length≤n→XD H→SqL (K w.params) H a (ns.map V.int)→sp w [.ref a] H (fun v _=>v=.bl true) fun _ _ _=>False)
  (hCX:∀ (w:World) (H:Hp) (s:Shared) (e:Value) (s':Shared),CX w [] H s (fun _ _ _=>False) e s'→False) :
  PySem.W.WalkO q loose XP YP l.row.toRowW d [] (fun f vs=>PySem.call f vs):=by
 refine Att.attach_call hn hdf fun w s₀ s₁ mg mb fa o pm cd doc a vs ns G Y ho hd hcd hmg hobj hints hlen hg=>?_;have KX:=hY w _ Y;obtain ⟨fd,hb,hF⟩:=F w mg fa _ KX G.T.g hmg;exact Vi KX G.T.g G.T.b G.T.builtins G.T.nolimit hg hobj hints (Nat.le_trans hlen hn2) hr hF hb (fun H hO hS=>hsp w H a ns hlen hO hS) fun H e s'=>hCX w H s₁ e s'
theorem walk_ofK {l:PySem.W.OpenLaw} {n k:Nat} {q:Program} {loose:List Str} {XP:(Str→Option Value)→Heap→Prop} {YP:World→Heap→Prop} {d:DefRec} {K:Params→PySem.W.Frag} {CX:CXT} {sp:PySem.W.Frag→Sp} {x:Str}
  (hn:l.most=some n) (hn2:n≤sizeLine) (hdf:d.params.defaults=[]) (hr:yB k callerA)
  (hY:∀ (w:World) (h:Heap),YP w h→(K w.params).In h)
  (F:∀ (w:World) (mg:Str→Option Value) (fa:Addr) (h:Heap),(K w.params).In h→h.Ns mainGlobals mg→mg d.name=some (.ref fa) →
   ∃ fd:FuncData,(∀ (s:Shared) (u:Value),BindsTo s fd ⟨[u],[]⟩ [(x,u)]) ∧
    ∀ base:Heap,(K w.params).In base→base.Ns mainGlobals mg→qE l.prog w (K w.params) mg base CX k fa fd [x] (sp (K w.params)))
  (hsp:∀ (K:PySem.W.Frag) (H:Hp) (a:Addr) (ns:List Int),ns.length≤n→XD H→SqL K H a (ns.map V.int)→sp K [.ref a] H (fun v _=>v=.bl true) fun _ _ _=>False)
  (hCX:∀ (H:Hp) (s:Shared) (e:Value) (s':Shared),CX [] H s (fun _ _ _=>False) e s'→False) :
  PySem.W.WalkO q loose XP YP l.row.toRowW d [] (fun f vs=>PySem.call f vs) :=
 XZ (K:=K) (CX:=fun _=>CX) (sp:=fun w=>sp (K w.params)) hn hn2 hdf hr hY F (fun w H a ns h1 h2 h3=>hsp (K w.params) H a ns h1 h2 h3) fun _ H s e s'=>hCX H s e s'
end L2
namespace L2
open PySem PySem.Spec PyProof.Rows
def qN (s:Stmt) (j:Nat):Stmt:=match s with
 | .ClassDef _ _ _ body _ _ _ _ _ _ _=>body.getD j (.Pass ⟨0,0,0,0⟩)
 | _=>.Pass ⟨0,0,0,0⟩
def j9 (s:Stmt):Arguments:=match s with
 | .FunctionDef _ a _ _ _ _ _ _ _ _=>a
 | _=>{ posonlyargs:=[],args:=[],vararg:=none,kwonlyargs:=[],kw_defaults:=[],kwarg:=none,defaults:=[] }
def j8 (s:Stmt):List Stmt:=match s with
 | .FunctionDef _ _ b _ _ _ _ _ _ _=>b
 | _=>[]
def j2 (s:Stmt):Scope:=match s with
 | .FunctionDef _ _ _ _ _ _ sc _ _ _=>sc
 | _=>{ kind:=.function,names:=[],isGenerator:=false,isCoroutine:=false }
abbrev CX0:CXT:=fun _ _ _ _ _ _=>False
abbrev E0:XK:=fun _ _ _=>False
theorem jP {X:Cx}:zU CX0 X E0:=fun _ _ _ _ _ _ _ h=>h.elim
structure Fun (K:PySem.W.Frag) (x qual:Str) (st:Stmt) (f:Addr) (fd:FuncData):Prop where
 ex:∃ (oc:Value) (od:Option Addr) (kV doc pm:Value) (an:Option Addr) (cdv ct:Value) (osl:Array (Option Value)),
  fd=PySem.W.fnOf x qual (j9 st) (j8 st) (j2 st) .none kV doc pm an cdv ct∧K.lookup f=some ⟨oc,od,.func fd,osl⟩∧PySem.W.codeIn K cdv qual=true
 kp:PySem.W.keepIn K (.ref f)=true
section
variable {P:Program} {w:World} {K:PySem.W.Frag} {mg:Str→Option Value} {base:Heap}
theorem Fun.ok {x qual:Str} {st:Stmt} {f:Addr} {fd:FuncData} {N ps:List Str} {k:Nat} {sp:Sp} (F:Fun K x qual st f fd) (S:jM N ps (j2 st)) (len:∀ vs H Q E,sp vs H Q E→vs.length=ps.length)
  (hbody:∀ (cdv:Value) (A:Around) (outer:List Env) (s:Shared) (H:Hp) (vs:List V) (Q:VK) (E:XK),yB k (A.deeper (envOfC qual (j2 st) s.heap.objs.size f cdv))→sp vs H Q E →
   ∃ t,PSs (vF CX0 P w K mg base N qual (j2 st) f cdv A outer s H E).nox (j8 st) t∧t { nx:=fun _ H'=>Q .non H',rt:=Q } (start N vs) H):qE P w K mg base CX0 (k+1) f fd ps sp:=by
 obtain ⟨oc,od,kV,doc,pm,an,cdv,ct,osl,rfl,lk,hcd⟩:=F.ex;refine KW lk hcd S len fun A outer s H vs Q E hr hsp=>?_;obtain ⟨t,h,q⟩:=hbody cdv A outer s H vs Q E hr hsp;exact ⟨t,h.nox,q⟩
theorem Fun.binds {x qual:Str} {st:Stmt} {f:Addr} {fd:FuncData} {ps:List Str} (F:Fun K x qual st f fd)
  (h:∀ (kV doc pm:Value) (an:Option Addr) (cdv ct:Value) (us:List Value),us.length=ps.length→bindArgs (PySem.W.fnOf x qual (j9 st) (j8 st) (j2 st) .none kV doc pm an cdv ct) ⟨us,[]⟩=pure (ps.zip us)):jd K fd ps []:=by
 obtain ⟨oc,od,kV,doc,pm,an,cdv,ct,osl,rfl,lk,hcd⟩:=F.ex;exact .all (h kV doc pm an cdv ct)
theorem jV {x qual:Str} {st:Stmt} {f:Addr} {oc:Value} {od an:Option Addr} {osl:Array (Option Value)} {kV doc pm cdv ct:Value} (l:K.lookup f=some ⟨oc,od,.func (PySem.W.fnOf x qual (j9 st) (j8 st) (j2 st) .none kV doc pm an cdv ct),osl⟩)
  (c:PySem.W.codeIn K cdv qual=true) (k:PySem.W.keepIn K (.ref f)=true):Fun K x qual st f (PySem.W.fnOf x qual (j9 st) (j8 st) (j2 st) .none kV doc pm an cdv ct):=⟨⟨oc,od,kV,doc,pm,an,cdv,ct,osl,rfl,l,c⟩,k⟩
end
theorem yH {n:Nat} (h:n≤1000):n < sizeLine:=Nat.lt_of_le_of_lt h (by decide)
section
variable {X:Cx}
theorem pv (i:Nat) {x:Str} {pos:Pos} (hN:X.N[i]?=some x:=by rfl) (hv:Vis X.env.scope x:=by first | exact Or.inl rfl | exact Or.inr (Or.inl rfl) | exact Or.inr (Or.inr rfl)) (hd:(x == ("__debug__":Str))=false:=by decide)
  (hcd:(x == ("__classdict__":Str))=false:=by decide):PE X (.Name x pos) (XF i):=UR hN hv hd hcd
end
def j7 (H H':Hp):Prop:=∀ b o,H b=some o→H' b=some o
theorem j7.refl (H:Hp):j7 H H:=fun _ _ h=>h
theorem j7.trans {H H1 H2:Hp} (a:j7 H H1) (b:j7 H1 H2):j7 H H2:=fun c o h=>b c o (a c o h)
theorem j7.free {H H':Hp} (e:j7 H H') {l:Addr} (h:H' l=Option.none):H l=Option.none:=by
 cases q:H l with
 | none=>rfl
 | some o =>
  rw [e l o q] at h;cases h
theorem j7.seq {K:PySem.W.Frag} {H H':Hp} {a:Addr} {xs:List V} (e:j7 H H') (h:SqL K H a xs):SqL K H' a xs:=by
 rcases h with (h | ⟨o,h⟩) | h
 ·exact .inl (.inl (e _ _ h))
 ·exact .inl (.inr ⟨o,e _ _ h⟩)
 ·exact .inr h
section
variable {X:Cx}
end
section
variable {κ:Type} [DecidableEq κ]
theorem zm:∀ {l:List κ} {k:κ},l.Nodup→¬ k∈l→(l++[k]).Nodup
 | [],k,_,_=>by simp
 | a :: r,k,h,hk=>by
  obtain ⟨h1,h2⟩:=List.nodup_cons.mp h;show (a :: (r++[k])).Nodup;refine List.nodup_cons.mpr ⟨fun m=>?_,zm h2 fun m=>hk (List.mem_cons.mpr (Or.inr m))⟩;rcases List.mem_append.mp m with q | q
  ·exact h1 q
  ·exact hk (List.mem_cons.mpr (Or.inl (List.mem_singleton.mp q).symm))
end
end L2
namespace PySem
open Sem (wp)
theorem xK {env:Env} {f:Str×NameKind→List (Str×Addr)→Sem (ForInStep (List (Str×Addr)))}
  (h1:∀ x r,x.2≠.free→f x r=pure (.yield r)) (h2:∀ x r c,x.2=.free→env.cells.lookup x.1=some c→f x r=pure (.yield ((x.1,c) :: r))) :
  ∀ (l:List (Str×NameKind)) (acc:List (Str×Addr)),(∀ x∈l,x.2=.free→∃ c,env.cells.lookup x.1=some c)→(∀ x c,acc.lookup x=some c→env.cells.lookup x=some c) →
   ∃ cl,forIn l acc f=pure cl∧(∀ x c,cl.lookup x=some c→env.cells.lookup x=some c)∧(∀ x∈l,x.2=.free→∃ c,cl.lookup x.1=some c)∧(∀ x c,acc.lookup x=some c→∃ c',cl.lookup x=some c')
 | [],acc,_,ha=>⟨acc,rfl,ha,(fun _ h=>nomatch h),(fun x c h=>⟨c,h⟩)⟩
 | x :: l,acc,h,ha=>by
  by_cases hf:x.2=.free
  ·obtain ⟨c,hc⟩:=h x List.mem_cons_self hf;have hself:((x.1,c) :: acc).lookup x.1=some c:=by rw [List.lookup_cons];simp
   have hne:∀ y,y≠x.1→((x.1,c) :: acc).lookup y=acc.lookup y:=fun y e=>by
    have:(y == x.1)=false:=beq_eq_false_iff_ne.mpr e;rw [List.lookup_cons,this]
   have ha':∀ y d,((x.1,c) :: acc).lookup y=some d→env.cells.lookup y=some d:=fun y d hy=>by
    by_cases e:y=x.1
    ·subst e;rw [hself] at hy;cases hy;exact hc
    ·rw [hne y e] at hy;exact ha y d hy
   obtain ⟨cl,e1,e2,e3,e4⟩:=xK h1 h2 l ((x.1,c) :: acc) (fun y hy=>h y (List.mem_cons_of_mem _ hy)) ha';refine ⟨cl,?_,e2,fun y hy hk=>?_,fun y d hy=>?_⟩
   ·rw [List.forIn_cons,h2 x acc c hf hc,pure_bind];exact e1
   ·rcases List.mem_cons.mp hy with rfl | hy
    ·exact e4 _ c hself
    ·exact e3 y hy hk
   ·by_cases e:y=x.1
    ·subst e;exact e4 _ c hself
    ·exact e4 y d (by rw [hne y e];exact hy)
  ·obtain ⟨cl,e1,e2,e3,e4⟩:=xK h1 h2 l acc (fun y hy=>h y (List.mem_cons_of_mem _ hy)) ha;refine ⟨cl,?_,e2,fun y hy hk=>?_,e4⟩
   ·rw [List.forIn_cons,h1 x acc hf,pure_bind];exact e1
   ·rcases List.mem_cons.mp hy with rfl | hy
    ·exact (hf hk).elim
    ·exact e3 y hy hk
theorem YD {scope:Scope} {env:Env} (h:∀ x∈scope.names,x.2=.free→∃ c,env.cells.lookup x.1=some c) :
  ∃ cl,closureFor scope env=pure cl∧(∀ x c,cl.lookup x=some c→env.cells.lookup x=some c)∧∀ x∈scope.names,x.2=.free→∃ c,cl.lookup x.1=some c:=by
 obtain ⟨cl,e1,e2,e3,_⟩:=xK (env:=env) (f:=fun x r=>match x with | (name,kind)=>if (kind == .free)=true then (do let c ← cellOf env name;pure (ForInStep.yield ((name,c) :: r))) else pure (ForInStep.yield r))
  (fun x r hx=>by
   obtain ⟨n,k⟩:=x;have:(k == NameKind.free)=false:=by simpa using hx
   simp only [this,Bool.false_eq_true,if_false])
  (fun x r c hx hc=>by
   obtain ⟨n,k⟩:=x;have hx:k=.free:=hx;have hc:env.cells.lookup n=some c:=hc;subst hx;simp only [cellOf,hc,beq_self_eq_true,if_true,pure_bind]) scope.names [] h (by simp)
 refine ⟨cl,?_,e2,e3⟩;unfold closureFor
 first
  | (rw [show _=pure cl from e1];rfl)
  | exact (congrArg (· >>= pure) e1).trans (pure_bind ..)
section
variable {prog:Program} {w:World} {A:Around} {R:Result→Shared→Prop} {s:Shared}
theorem zb {elt target iter:Expr} {scope:Scope} {pos:Pos} {it acc:Value} {env:Env} (I:Nat→Shared→Prop)
  (turn:∀ n s,I n s→wpAny (model prog w) A (pyNext it) (fun r s₁=>match r with
   | none=>R (.ok .next) s₁
   | some v=>wpAny (model prog w) A (letOwnedTupleGo target it v) (fun _ s₂=>wpAny (model prog w) A (assign target env v) (fun _ s₃=>wpAny (model prog w) A (eval elt env) (fun x s₄ =>
     wpAny (model prog w) A (call (.builtin "list.append") [acc,x]) (fun _ s₅=>∃ m,m < n∧I m s₅) (fun _ _=>False) s₄) (fun _ _=>False) s₃) (fun _ _=>False) s₂) (fun _ _=>False) s₁) (fun _ _=>False) s)
  (n:Nat) (h:I n s):codeAny (model prog w) A (.compLoop (.ListComp elt [⟨target,iter,[],0⟩] scope pos) 0 it acc env) R s:=by
 refine codeAny_loop rfl I (fun n s hI=>?_) n h;show wpAny _ _ ((compTurn (.ListComp elt [⟨target,iter,[],0⟩] scope pos) 0 it acc env).onRaise (fun x=>do noteFrame x env;theTreesLotGoes x)) _ _ s;refine wpAny_noted ?_;rw [compTurn_list1];refine wpAny_bind (wpAny_standAt (wpAny_bind (wpAny_mono (turn n s hI) (fun r s₁ h₁=>?_) fun _ _ h'=>h'.elim)));cases r with
 | none=>exact wpAny_pure h₁
 | some v =>
  exact wpAny_bind (wpAny_mono h₁ (fun _ s₂ h₂=>wpAny_bind (wpAny_mono h₂ (fun _ s₃ h₃=>wpAny_bind (wpAny_bind (wpAny_mono h₃ (fun x s₄ h₄=>wpAny_bind (wpAny_mono h₄
   (fun _ s₅ h₅=>wpAny_pure (wpAny_pure ⟨rfl,h₅⟩)) fun _ _ h'=>h'.elim)) fun _ _ h'=>h'.elim))) fun _ _ h'=>h'.elim)) fun _ _ h'=>h'.elim)
end
end PySem
namespace L2
open PySem PySem.Spec PyProof.Rows
section
variable {X:Cx} {pins:List (Addr×Obj)} {σ:St} {H:Hp} {s:Shared} {h':Heap}
theorem Inv.turnL {t':Nat} {ch:List Addr} {t:Addr} {o:HO} (I:Inv X pins σ H s) (hf:∀ b∈ch,vD X pins H b)
  (k:∀ b u,b∉ch→s.heap.get? b=some u→h'.get? b=some u) (hp:s.heap.objs.size≤t) (new:qM X.prog X.w (upd H t o) h' t o) :
  Inv X pins σ (upd H t o) { s with heap:=h',toks:=t' }:=by
 have hn:H t=none:=I.hok.fresh hp;have nch:∀ b u,H b=some u→b∉ch:=fun b u e z=>by rw [(hf b z).1] at e;cases e
 have net:∀ b u,s.heap.get? b=some u→b≠t:=fun b u e=>Nat.ne_of_lt (Nat.lt_of_lt_of_le (Heap.lt_size e) hp);refine I.step (g':=s.gens) (d':=s.drawn) (ch:=ch) (fun b hb=>?_) (fun b u _ _ hc e _=>k b u hc e) (fun b u _ _ hc e _=>⟨u.slots,k b u hc e⟩)
  (fun b u _ e n=>by rw [j5 (net b u e)];exact n) (fun b u hc e=>⟨u,k b u hc e⟩)
  (fun b xs e=>by rw [j5 (jA e hn)];exact e) (fun b u xs e=>by rw [j5 (jA e hn)];exact e)
  (fun b ps e=>⟨#[],by rw [j5 (jA e hn),e];simp⟩) (fun m hm=>?_) (fun b u e=>?_) I.bare
 ·obtain ⟨_,f1,_,f3,f4,f5⟩:=hf b hb;exact ⟨f3,f1,f4,f5⟩
 ·obtain ⟨ob,es,ep,ho,r⟩:=hm;exact ⟨ob,es,ep,k _ ob (fun z=>(hf _ z).2.1 rfl) ho,r⟩
 ·by_cases hb:b=t
  ·subst hb;rw [j1] at e;cases e;exact new
  ·rw [j5 hb] at e;refine (I.hok b u e).stay (fun c v hc q=>k c v ?_ q) (fun c q=>by rw [j5 (jA q hn)];exact q) fun c xs q=>by rw [j5 (jA q hn)];exact q
   rcases hc with z | z
   ·rw [z];exact nch b u e
   ·exact nch c _ z
end
def Ite (K:PySem.W.Frag) (a:Addr):It :=
  ⟨fun i H=>∃ xs x,SqL K H a xs∧xs[i]?=some x,
   fun i H x H'=>∃ t v,x=.ref t∧H t=none∧H'=upd H t (.tup [.int (i:Int),v])∧∀ xs,SqL K H a xs→xs[i]?=some v,
   fun i H=>∃ xs,SqL K H a xs∧xs.length≤i⟩
theorem Z2 {P:Program} {w:World} {K:PySem.W.Frag} {es:List Expr} {kk:Nat} {pos:Pos} (a it e:Addr) (hne:e≠it) :
  Y9 P w K (.Tuple es kk pos) (Ite K a) [e,it] e (fun i h=>(∃ old,IsEnum h e it ((i:Nat):Int) old)∧h.IsListIter it a i) where
 mem:=by simp
 obj:=fun i h st b hb=>by
  obtain ⟨⟨old,he⟩,hi⟩:=st;rcases List.mem_cons.mp hb with rfl | hb
  ·exact ⟨_,he,fun v z=>by
    have z':Data.fields _=Data.cell v:=z;cases z'⟩
  ·have eb:=List.mem_singleton.mp hb;subst eb;obtain ⟨o,e1,c,d⟩:=hi;exact ⟨o,e1,fun v z=>by rw [d] at z;cases z⟩
 keep:=fun i h h' st k=>by
  obtain ⟨⟨old,he⟩,hi⟩:=st;exact ⟨⟨old,k e (by simp) _ he⟩,hi.at fun o q=>k it (by simp) o q⟩
 item:=by
  intro X hP hw hK hc i pins s σ H E I hf st hg;subst hP hw hK;obtain ⟨⟨old,he⟩,hi⟩:=st;obtain ⟨xs,x,hq,hx⟩:=hg;obtain ⟨its,rv,p,hz⟩:=I.list hq;obtain ⟨u,hu,ru⟩:=rv.get hx;have hel:e < s.heap.objs.size:=Heap.lt_size he;have hil:it < s.heap.objs.size:=by obtain ⟨o,q,_⟩:=id hi;exact Heap.lt_size q
  refine wpAny_pyNext_enum_item he hi p.isList (x:=u) (by simpa using hu) hne fun h1 ho hi1 hT hsz hk=>?_;refine ⟨_,rfl,wpAny_letOwnedTupleGo_enum ho fun h2 he2 hs2=>?_⟩;replace hs2:Heap.SameBut e h1 h2:=hs2;have hT2:h2.get? s.heap.objs.size=some { cls:=.type "tuple",data:=.seq #[.int (i:Int) s.toks,u] }:=(hs2.2 _ (Nat.ne_of_gt hel)).trans hT;have I1:Inv X pins σ (upd H s.heap.objs.size (.tup [.int (i:Int),x])) { s with heap:=h2,toks:=s.toks+1 } :=
   I.turnL (ch:=[e,it]) hf (fun b o hb q=>by
    have hbe:b≠e:=fun z=>hb (by simp [z]);have hbi:b≠it:=fun z=>hb (by simp [z]);exact hs2.extBut b o hbe (hk b o hbe hbi q)) (Nat.le_refl _)
    ⟨by show 2≤sizeLine;decide,[.int (i:Int) s.toks,u],.cons ⟨_,rfl⟩ (.cons ru .nil),⟨_,hT2,rfl,_,rfl⟩⟩
  refine ⟨.ref s.heap.objs.size,_,I1,rfl,⟨_,x,rfl,I.hok.fresh (Nat.le_refl _),rfl,fun ys hy=>by rw [I.list_inj hy hq];exact hx⟩,⟨⟨u,?_⟩,?_⟩,fun b hb=>?_⟩
  ·have:((i+1:Nat):Int)=(i:Int)+1:=by push_cast;rfl
   rw [this];exact he2
  ·exact hi1.extBut hs2.extBut (Ne.symm hne)
  ·have hbl:b < s.heap.objs.size:=by
    rcases List.mem_cons.mp hb with rfl | hb
    ·exact hel
    ·rw [List.mem_singleton.mp hb];exact hil
   rw [j5 (Nat.ne_of_lt hbl)];exact (hf b hb).1
 done:=by
  intro X hP hw hK hc i pins s σ H E I hf st hg;subst hP hw hK;obtain ⟨⟨old,he⟩,hi⟩:=st;obtain ⟨xs,hq,hx⟩:=hg;obtain ⟨its,rv,p,hz⟩:=I.list hq;obtain ⟨f0,f1,f2,f3,f4,f5⟩:=hf it (by simp);have hl:=rv.length;exact wpAny_pyNext_enum_end (I.ok.hd hc) he hi p.isList (by simp;omega) fun h' eb=>⟨rfl,I.turned (t':=s.toks) (fun b o hb e=>eb b o hb e) f0 f1 f3 f4 f5⟩
 self:=fun _ _ _ _ _ st h=>by
  obtain ⟨⟨old,he⟩,_⟩:=st;exact wpAny_pyIter_enum he h
section
variable {X:Cx}
def Zz (K:PySem.W.Frag) (ta:TA):TI:=fun σ H R=>ta σ H fun vs H1=>∃ a,vs=[.ref a]∧(∃ xs,SqL K H1 a xs)∧R (Ite K a) H1
theorem XB {es:List Expr} {kk:Nat} {p0:Pos} {l:Expr} {ta:TA} {p pos:Pos} (hg:Gl X "enumerate") (hm:X.mg "enumerate"=none) (ha:PA X [l] ta) (hs:starEach [l] X.env=[(false,eval l X.env)]:=by rfl) :
  PI X (.Tuple es kk p0) (.Call (.Name "enumerate" p) [l] [] pos) (Zz X.K ta):=by
 intro pins s σ H R I h;refine Call_ (v6 I hg hm boot_enumerate (PyProof.Rows.callWith_type1 (thn (ha pos pins s σ H _ I h) fun us s1 ⟨vs,H1,I1,r1,q1⟩=>?_) hs rfl));obtain ⟨a,e,⟨xs,hq⟩,q⟩:=q1;subst e;cases r1 with
 | cons r rr =>
  cases rr;cases r;obtain ⟨its,rv,p,hz⟩:=I1.list hq;refine call_enumerate_list p.isList fun h' he hi hsz hk=>?_;refine wpAny_pyIter_enum he ?_;have I2:Inv X pins σ H1 { s1 with heap:=h' }:=I1.kept (t':=s1.toks) hk;refine ⟨s1.heap.objs.size+1,[s1.heap.objs.size+1,s1.heap.objs.size],_,_,H1,rfl,I2,Z2 a s1.heap.objs.size (s1.heap.objs.size+1) (Nat.succ_ne_self _),⟨⟨_,he⟩,hi⟩,fun b hb=>?_,q⟩;have hb':s1.heap.objs.size≤b:=by
   rcases List.mem_cons.mp hb with rfl | hb
   ·exact Nat.le_succ _
   ·rw [List.mem_singleton.mp hb];exact Nat.le_refl _
  exact I1.fpOk hb' (I1.hok.fresh hb')
theorem xQ {K:PySem.W.Frag} {a:Addr} {xs:List V} {g:TG} {tb:TS} {D:Ends} {σ:St} {H:Hp} (Pv:Nat→St→Hp→Prop) (h0:Pv 0 σ H) (hl:∀ i σ H,i≤xs.length→Pv i σ H→SqL K H a xs)
  (hs:∀ i x σ H t,xs[i]?=some x→Pv i σ H→H t=none→g (.ref t) σ (upd H t (.tup [.int (i:Int),x])) fun σ2 H2=>tb { D with nx:=Pv (i+1),ct:=Pv (i+1),bk:=D.nx } σ2 H2) (hd:∀ σ H,Pv xs.length σ H→D.nx σ H) :
  ∃ W:Nat→Nat→St→Hp→Prop,(∃ m,W 0 m σ H)∧∀ i m σ H,W i m σ H →
   ((Ite K a).stop i H∧D.nx σ H)∨((Ite K a).go i H∧∃ N:St→Hp→Prop,(∀ σ' H',N σ' H'→∃ m',m' < m∧W (i+1) m' σ' H')∧∀ x H',(Ite K a).yld i H x H'→g x σ H' fun σ2 H2=>tb { D with nx:=N,ct:=N,bk:=D.nx } σ2 H2):=by
 refine ⟨fun i m σ H=>m=xs.length - i∧i≤xs.length∧Pv i σ H,⟨xs.length,by simp,Nat.zero_le _,h0⟩,?_⟩
 rintro i m σ H ⟨rfl,hi,p⟩
 have q:=hl i σ H hi p
 by_cases hlt:i < xs.length
 ·refine .inr ⟨⟨xs,xs[i],q,by simp [hlt]⟩,Pv (i+1),fun σ' H' p'=>⟨xs.length - (i+1),by omega,rfl,hlt,p'⟩,fun x H' y=>?_⟩;obtain ⟨t,v,rfl,ht,rfl,y⟩:=y;exact hs i v σ H t (y xs q) p ht
 ·have e:i=xs.length:=by omega
  subst e;exact .inl ⟨⟨xs,q,Nat.le_refl _⟩,hd σ H p⟩
end
def XT (scope sc0:Scope):Scope:={ scope with names:=scope.names.map fun (n,k)=>if (k == .free && sc0.kind == .function && sc0.names.lookup n == some .cell) then (n,.cell) else (n,k) }
def blk (X:Cx) (N':List Str) (scope:Scope) (cl:List (Str×Addr)) (C:Addr) (s:Shared) (H:Hp) (ex:List Addr) (pins:List (Addr×Obj)):Cx :=
 { X with N:=N',s₀:=s,H₀:=H,env:=compEnvC scope cl C X.env,outer:=X.stack,ex:=ex,fn:=fun _=>false,pn:=X.pn++pins,xe:=fun _ _=>False }
def K7 (N:List Str) (sc:Scope) (p:Str×Option Nat):Bool :=
 match p.2 with
 | none=>true
 | some j=>N[j]? == some p.1 && sc.names.lookup p.1 == some NameKind.free
structure yV (N:List Str) (sc0 sc:Scope) (N':List Str) (caps:List (Option Nat)):Prop where
 kind:sc.kind=.function
 names:∀ x∈sc.names,x.2=.local→sc.names.lookup x.1=some .local
 nocell:∀ x∈sc.names,x.2≠.cell
 frees:∀ x∈sc.names,x.2=.free→sc0.names.lookup x.1=some .cell∨sc0.names.lookup x.1=some .free
 len:caps.length=N'.length
 cap:((N'.zip caps).all (K7 N sc))=true
 nd:N'.Nodup
def yx (caps:List (Option Nat)) (σ:St):St:=caps.map fun o=>o.bind fun j=>σ.getD j none
def Wk (σ' σ:St):Prop:=σ'.length=σ.length∧∀ (i:Nat) v,σ'[i]?=some (some v)→σ[i]?=some (some v)
theorem Wk.set {σ:St} {i:Nat} {v:V} (h:σ[i]?=some none):Wk σ (σ.set i (some v)):=by
 refine ⟨by simp,fun j w e=>?_⟩
 by_cases hj:i=j
 ·subst hj;rw [h] at e;cases e
 ·rw [List.getElem?_set_ne hj];exact e
theorem vt {names:List (Str×NameKind)} {f:Str×NameKind→Str×NameKind} (hf:∀ x,(f x).1=x.1) {x:Str} {k:NameKind} (h:(names.map f).lookup x=some k):∃ y∈names,y.1=x∧(f y).2=k:=by
 induction names with
 | nil=>simp at h
 | cons y r ih =>
  rw [List.map_cons] at h;have hl:List.lookup x (f y :: r.map f)=match x == (f y).1 with | true=>some (f y).2 | false=>List.lookup x (r.map f):=by
   cases f y with
   | mk a b =>
    simp only [List.lookup_cons];cases x == a <;> rfl
  rw [hl] at h;cases hb:x == (f y).1 with
  | true =>
   rw [hb] at h;cases h;exact ⟨y,List.mem_cons_self,by rw [← hf y];exact (beq_iff_eq.mp hb).symm,rfl⟩
  | false =>
   rw [hb] at h;obtain ⟨z,hz,e1,e2⟩:=ih h;exact ⟨z,List.mem_cons_of_mem _ hz,e1,e2⟩
section
variable {X:Cx} {pins:List (Addr×Obj)} {σ:St} {H:Hp} {s:Shared} {scope:Scope} {cl:List (Str×Addr)} {C:Addr} {N':List Str} {ex:List Addr} {caps:List (Option Nat)}
theorem UJ (I:Inv X pins σ H s) (S:yV X.N X.env.scope scope N' caps) (hcl1:∀ x c,cl.lookup x=some c→X.env.cells.lookup x=some c) (hcl2:∀ x∈scope.names,x.2=.free→∃ c,cl.lookup x.1=some c)
  (hC:s.heap.objs.size≤C) (hf:∀ b∈ex,vD X pins H b) (hex:∀ b∈ex,b < s.heap.objs.size):(blk X N' scope cl C s H ex pins).Ok where
 mod:=I.ok.mod
 kind:=S.kind
 glob:=I.ok.glob
 blt:=I.ok.blt
 above:=hC
 inj:=fun x y c hx hy=>I.ok.inj x y c (hcl1 x c hx) (hcl1 y c hy)
 has:=fun x hx=>by
  have hx':(XT scope X.env.scope).names.lookup x=some .cell∨(XT scope X.env.scope).names.lookup x=some .free:=hx;have fin:∀ k,(k=NameKind.cell∨k=NameKind.free)→(XT scope X.env.scope).names.lookup x=some k→∃ c,cl.lookup x=some c:=fun k hk hl=>by
   obtain ⟨y,hy,e1,e2⟩:=vt (fun z=>by obtain ⟨n,k⟩:=z;dsimp only;split <;> rfl) hl;obtain ⟨n,k0⟩:=y;have e1:n=x:=e1;subst e1;have hfree:k0=.free:=by
    dsimp only at e2
    split at e2
    ·rename_i hcond
     simp only [Bool.and_eq_true,beq_iff_eq] at hcond;exact hcond.1.1
    ·have e2:k0=k:=e2;rcases hk with rfl | rfl
     ·exact absurd e2 (S.nocell _ hy)
     ·exact e2
   exact hcl2 _ hy hfree
  rcases hx' with h | h
  ·exact fin _ (.inl rfl) h
  ·exact fin _ (.inr rfl) h
 cab:=fun _ _ h=>by cases h
 hd:=I.ok.hd
 frames:=I.ok.frames
 stk:=.inl rfl
 exf:=fun b hb=>⟨Nat.ne_of_lt (Nat.lt_of_lt_of_le (hex b hb) hC),fun x c hc=>(hf b hb).2.2.2.2.1 x c (hcl1 x c hc)⟩
 bs:=I.bs
 bsz:=Nat.le_trans I.ok.bsz I.sz
 noex:=fun b o e hb=>by
  rcases (hf b hb).2.2.2.1 with z | z
  ·exact I.ok.noex b o e z
  ·exact absurd (Nat.lt_of_lt_of_le (Heap.lt_size (I.ok.bs b o e).1) z) (Nat.lt_irrefl _)
 exfs:=fun b hb hm=>by
  rcases List.mem_cons.mp (I.stkSub b hm) with z | z
  ·exact (hf b hb).2.1 z
  ·exact (hf b hb).2.2.1 z
 funs:=I.stack
 frf:=I.stkFree
theorem Vh {i:Nat} {v:V} (h:(yx caps σ)[i]?=some (some v)):∃ j,caps[i]?=some (some j)∧σ[j]?=some (some v):=by
 unfold yx at h;rw [List.getElem?_map] at h;cases hc:caps[i]? with
 | none=>rw [hc] at h;simp at h
 | some o =>
  rw [hc] at h;cases o with
  | none=>simp at h
  | some j =>
   refine ⟨j,rfl,?_⟩;have h:σ.getD j none=some v:=by simpa using h
   rw [List.getD_eq_getElem?_getD] at h;cases hj:σ[j]? with
   | none=>rw [hj] at h;simp at h
   | some w=>rw [hj] at h;simp at h;rw [h]
theorem Ym {acc n t':Nat} {h₁:Heap} {m:Str→Option Value} (I:Inv X pins σ H s) (S:yV X.N X.env.scope scope N' caps) (hcl1:∀ x c,cl.lookup x=some c→X.env.cells.lookup x=some c) (hcl2:∀ x∈scope.names,x.2=.free→∃ c,cl.lookup x.1=some c)
  (hC:s.heap.objs.size≤C) (hf:∀ b∈ex,vD X pins H b) (hex:∀ b∈ex,b < s.heap.objs.size) (hns:h₁.Ns C m) (old:∀ b o,s.heap.get? b=some o→h₁.get? b=some o)
  (hacc:h₁.get? acc=some { cls:=.type "list",data:=.seq #[] n }) (hge:s.heap.objs.size≤acc) (hne:acc≠C) :
  Inv (blk X N' scope cl C s H ex pins) [] (yx caps σ) (upd H acc (.lst [])) { s with heap:=h₁,toks:=t' } where
 ok:=UJ I S hcl1 hcl2 hC hf hex
 os:=rfl
 bare:=I.bare
 base:=Un.laid old hge (I.hok.fresh hge)
 loc:=⟨m,hns,fun i x v e1 e2 e3=>by
  obtain ⟨j,hj,hv⟩:=Vh e2;have hz:(x,some j)∈N'.zip caps:=by
   have:(N'.zip caps)[i]?=some (x,some j):=by rw [List.getElem?_zip_eq_some];exact ⟨e1,hj⟩
   exact List.mem_of_getElem? this
  have hk:=List.all_eq_true.mp S.cap _ hz;simp only [K7,Bool.and_eq_true,beq_iff_eq] at hk;obtain ⟨hN,hfr⟩:=hk;have hmem:(x,NameKind.free)∈scope.names:=by
   have e:∀ {l:List (Str×NameKind)},l.lookup x=some .free→(x,NameKind.free)∈l:=fun {l}=>mem_of_lookup;exact e hfr
  have h0:=S.frees _ hmem rfl;obtain ⟨m0,hn0,hl⟩:=I.loc;obtain ⟨u,r,l⟩:=hl j x v hN hv (by
   rcases h0 with h0 | h0
   ·exact .inr (.inl h0)
   ·exact .inr (.inr h0))
  refine ⟨u,r,?_⟩;have hcase:∃ c,X.env.cells.lookup x=some c∧s.heap.IsCell c (some u):=by
   rcases l with ⟨hk,_⟩ | ⟨_,c,hc,hcell⟩
   ·have hk':X.env.scope.names.lookup x=some .local:=hk;rcases h0 with h0 | h0 <;> (rw [h0] at hk';cases hk')
   ·exact ⟨c,hc,hcell⟩
  obtain ⟨c,hc,hcell⟩:=hcase;obtain ⟨c',hc'⟩:=hcl2 _ hmem rfl;have ec:=hcl1 x c' hc';rw [hc] at ec;cases ec;refine .inr ⟨?_,c,hc',hcell.keeps old⟩;have e3':Vis (XT scope X.env.scope) x:=e3;rcases e3' with h | h | h
  ·exfalso;obtain ⟨y,hy,q1,q2⟩:=vt (fun z=>by obtain ⟨n,k⟩:=z;dsimp only;split <;> rfl) h;obtain ⟨nn,k0⟩:=y;have q1:nn=x:=q1;subst q1;dsimp only at q2
   split at q2
   ·cases q2
   ·have q2:k0=.local:=q2;subst q2;have:=S.names _ hy rfl;have this:scope.names.lookup nn=some .local:=this;rw [hfr] at this;cases this
  ·exact .inl h
  ·exact .inr h⟩
 cell:=fun x c e=>let ⟨v,z⟩:=I.cell x c (hcl1 x c e);⟨v,z.keeps old⟩
 free:=by
  show upd H acc (.lst []) C=none;rw [j5 (Ne.symm hne)];exact I.hok.fresh hC
 freeC:=fun x c e=>by
  obtain ⟨v,z⟩:=I.cell x c (hcl1 x c e);have hl:c≠acc:=Nat.ne_of_lt (Nat.lt_of_lt_of_le z.lt hge);rw [j5 hl];exact I.freeC x c (hcl1 x c e)
 pin:=fun p hp=>by
  have hp':p∈X.pn++pins:=by
   have:p∈(X.pn++pins)++[]:=hp;simpa using this
  obtain ⟨e,n,ne,nf,d⟩:=I.pin p hp';have hlt:=Heap.lt_size e;refine ⟨old _ _ e,?_,Nat.ne_of_lt (Nat.lt_of_lt_of_le hlt hC),fun z=>?_,d⟩
  ·rw [j5 (Nat.ne_of_lt (Nat.lt_of_lt_of_le hlt hge))];exact n
  ·rcases List.mem_cons.mp (I.stkSub _ z) with z | z
   ·exact ne z
   ·exact nf z
 hok:=I.hok.laid old hge ⟨Nat.zero_le _,[],n,.nil,hacc⟩
 len:=by
  show (yx caps σ).length=N'.length;unfold yx;rw [List.length_map];exact S.len
theorem QQ {H':Hp} {s':Shared} {σ':St} {pins':List (Addr×Obj)} (I:Inv X pins σ H s) (J:Inv (blk X N' scope cl C s H ex pins) pins' σ' H' s') (hf:∀ b∈ex,vD X pins H b):Inv X pins σ H' s' :=
 I.call' (ch:=ex) J.os J.base J.hok J.bare fun b hb=>by
  obtain ⟨_,f1,_,f3,f4,f5⟩:=hf b hb;exact ⟨f3,f1,f4,f5⟩
theorem Inv.letC {H':Hp} {s':Shared} {h'':Heap} {σ':St} (I:Inv X pins σ H s) (hC:s.heap.objs.size≤C) (J:Inv X pins σ' H' s') (hn:H' C=none) (hs:Heap.SameBut C s'.heap h''):Inv X pins σ' H' { s' with heap:=h'' }:=by
 refine J.turned (it:=C) (t':=s'.toks) (fun b o hb e=>(hs.2 b hb).trans e) hn (Nat.ne_of_gt (Nat.lt_of_lt_of_le I.lt hC)) (.inr (Nat.le_trans I.sz hC)) (fun x c e=>?_) fun p hp=>?_
 ·obtain ⟨v,z⟩:=I.cell x c e;exact Nat.ne_of_lt (Nat.lt_of_lt_of_le z.lt hC)
 ·obtain ⟨e,_⟩:=I.pin p hp;exact Nat.ne_of_lt (Nat.lt_of_lt_of_le (Heap.lt_size e) hC)
end
def Va (wi:TI) (g:TG) (te:TE) (caps:List (Option Nat)):TE:=fun σ H Q=>wi σ H fun J H1=>∀ acc,H1 acc=none→∃ W:Nat→Nat→List V→Hp→Prop,(∃ m,W 0 m [] (upd H1 acc (.lst [])))∧∀ i m ys H,W i m ys H →
 (J.stop i H∧Q (.ref acc) H)∨(J.go i H∧∃ N:List V→Hp→Prop,(∀ ys' H',N ys' H'→∃ m',m' < m∧W (i+1) m' ys' H')∧∀ x H',J.yld i H x H'→g x (yx caps σ) H' fun σ2 H2=>Wk (yx caps σ) σ2∧te σ2 H2 fun y H3=>H3 acc=some (.lst ys)∧ys.length < sizeLine∧N (ys++[y]) (upd H3 acc (.lst (ys++[y]))))
section
variable {X:Cx} {scope:Scope} {N':List Str} {caps:List (Option Nat)} {elt iter tg:Expr} {pos:Pos} {wi:TI} {g:TG} {te:TE}
def Qc (caps:List (Option Nat)) (g:TG) (te:TE) (σ:St) (Q:VK) (J:It) (H1:Hp):Prop:=∀ acc,H1 acc=none→∃ W:Nat→Nat→List V→Hp→Prop,(∃ m,W 0 m [] (upd H1 acc (.lst [])))∧∀ i m ys H,W i m ys H →
 (J.stop i H∧Q (.ref acc) H)∨(J.go i H∧∃ N:List V→Hp→Prop,(∀ ys' H',N ys' H'→∃ m',m' < m∧W (i+1) m' ys' H')∧∀ x H',J.yld i H x H'→g x (yx caps σ) H' fun σ2 H2=>Wk (yx caps σ) σ2∧te σ2 H2 fun y H3=>H3 acc=some (.lst ys)∧ys.length < sizeLine∧N (ys++[y]) (upd H3 acc (.lst (ys++[y]))))
theorem kh {pins:List (Addr×Obj)} {s:Shared} {σ:St} {H:Hp} {cl:List (Str×Addr)} {Q:VK} {E:Value→Shared→Prop} {RR:Value→Addr→Result→Shared→Prop} {it:Addr} {fp:List Addr} {tn:Nat→Heap→Prop} {J:It} (hc:X.calm=true) (S:yV X.N X.env.scope scope N' caps)
  (hg:∀ cl C s H ex pins,PG (blk X N' scope cl C s H ex pins) tg g) (he:∀ cl C s H ex pins,PE (blk X N' scope cl C s H ex pins) elt te)
  (hcl1:∀ x c,cl.lookup x=some c→X.env.cells.lookup x=some c) (hcl2:∀ x∈scope.names,x.2=.free→∃ c,cl.lookup x.1=some c)
  (I:Inv X pins σ H s) (T:Y9 X.prog X.w X.K tg J fp it tn) (st:tn 0 s.heap) (f2:∀ b∈fp,vD X pins H b) (R:Qc caps g te σ Q J H)
  (hRR:∀ acc C H' s' m,s.heap.objs.size≤C→s'.heap.Ns C m→Inv X pins σ H' s'→H' C=none→Q (.ref acc) H'→RR (.ref acc) C (.ok .next) s') :
  wpAny (model X.prog X.w) X.A (newList []) (fun acc s₃=>wpAny (model X.prog X.w) X.A (newFunctionEnv scope X.env.globals cl [] X.env.qual none .none (some X.env)) (fun cenv s₄ =>
   codeAny (model X.prog X.w) X.A (.compStart (.ListComp elt [⟨tg,iter,[],0⟩] scope pos) 0 (.ref it) acc { cenv with scope:=relabel scope X.env }) (RR acc cenv.locals) s₄) E s₃) E s:=by
 refine wpAny_newObj_type (wpAny_newFunctionEnv S.nocell (by intro y hy;simp at hy) (fun h₁ hns₁ hsb₁=>?_) S.kind);dsimp only at hns₁ hsb₁ ⊢;generalize hP2:s.heap.push { cls:=.type "list",dict:=none,data:=.seq ([]:List Value).toArray }=P2 at hns₁ hsb₁ ⊢;have hC:P2.objs.size=s.heap.objs.size+1:=by rw [← hP2,Heap.size_push]
 have hDC:s.heap.objs.size≠P2.objs.size:=by rw [hC];exact Nat.ne_of_lt (Nat.lt_succ_self _)
 have hCle:s.heap.objs.size≤P2.objs.size:=by rw [hC];exact Nat.le_succ _
 have old:∀ b o,s.heap.get? b=some o→h₁.get? b=some o:=fun b o e=>hsb₁.extBut b o (by rw [hC];exact Nat.ne_of_lt (Nat.lt_succ_of_lt (Heap.lt_size e))) (Heap.get?_push_of_some _ (hP2 ▸ Heap.get?_push_of_some _ e));have hacc:h₁.get? s.heap.objs.size=some { cls:=.type "list",data:=.seq #[] }:=hsb₁.extBut _ _ hDC (Heap.get?_push_of_some _ (hP2 ▸ Heap.get?_push_size _ rfl));have hex:∀ b∈fp,b < s.heap.objs.size:=fun b hb=>by obtain ⟨o,e,_⟩:=T.obj 0 _ st b hb;exact Heap.lt_size e
 obtain ⟨W,⟨m0,w0⟩,turn⟩:=R s.heap.objs.size (I.hok.fresh (Nat.le_refl _));have I3:∀ t',Inv (blk X N' scope cl P2.objs.size s H fp pins) [] (yx caps σ) (upd H s.heap.objs.size (.lst [])) { s with heap:=h₁,toks:=t' }:=fun t'=>Ym (t':=t') I S hcl1 hcl2 hCle f2 hex hns₁ old hacc (Nat.le_refl _) hDC;have stat:∀ {H':Hp},(∀ b∈fp,H' b=none)→∀ b∈fp,vD (blk X N' scope cl P2.objs.size s H fp pins) [] H' b:=fun hn b hb=>by
  obtain ⟨_,q1,q2,q3,q4,q5⟩:=f2 b hb;refine ⟨hn b hb,Nat.ne_of_lt (Nat.lt_of_lt_of_le (hex b hb) hCle),fun z=>?_,.inl hb,fun x c e=>q4 x c (hcl1 x c e),fun p hp=>q5 p ?_⟩
  ·rcases List.mem_cons.mp (I.stkSub b z) with z | z
   ·exact q1 z
   ·exact q2 z
  ·have:p∈(X.pn++pins)++[]:=hp;simpa using this
 have loop:∀ s₃:Shared,s₃={ s with heap:=h₁,toks:=s.toks+([]:List (Str×Value)).length } →
   codeAny (model X.prog X.w) X.A (.compLoop (.ListComp elt [⟨tg,iter,[],0⟩] scope pos) 0 (.ref it) (.ref s.heap.objs.size) (compEnvC scope cl P2.objs.size X.env)) (RR (.ref s.heap.objs.size) P2.objs.size) s₃:=by
  rintro s₃ rfl
  refine zb (fun n s'=>∃ i ys H',Inv (blk X N' scope cl P2.objs.size s H fp pins) [] (yx caps σ) H' s'∧tn i s'.heap∧(∀ b∈fp,H' b=none)∧W i n ys H') ?_ m0
   ⟨0,[],_,I3 _,T.keep 0 _ _ st (fun b _ o e=>old b o e),fun b hb=>by rw [j5 (Nat.ne_of_lt (hex b hb))];exact (f2 b hb).1,w0⟩
  rintro n s4 ⟨i,ys,H4,I4,st4,fr4,w4⟩
  rcases turn i n ys H4 w4 with ⟨stop,q⟩ | ⟨go,N,hN,step⟩
  ·refine thn (T.done (blk X N' scope cl P2.objs.size s H fp pins) rfl rfl rfl hc i [] s4 _ H4 _ I4 (stat fr4) st4 stop) fun r s5 ⟨hr,I5⟩=>?_;subst hr;obtain ⟨m,hm,_⟩:=id I5.loc;exact hRR _ _ H4 s5 m hCle hm (QQ I I5 f2) I5.free q
  ·refine thn (T.item (blk X N' scope cl P2.objs.size s H fp pins) rfl rfl rfl hc i [] s4 _ H4 _ I4 (stat fr4) st4 go) fun r s5 ⟨u,hr,h5⟩=>?_;subst hr;refine thn h5 fun _ s6 ⟨x,H6,I6,r6,y6,st6,fr6⟩=>?_;have I6':=I6.pinned (stat fr6) (T.obj _ _ st6);refine thn (hg cl _ s H fp pins _ s6 _ H6 x u _ I6' r6 (step x H6 y6)) fun _ s7 ⟨σ7,H7,I7,wk7,q7⟩=>?_;refine thn (he cl _ s H fp pins _ s7 σ7 H7 _ I7 q7) fun yv s8 ⟨y,H8,I8,r8,ha8,hsz8,w8⟩=>?_;refine thn (jj (X:=blk X N' scope cl P2.objs.size s H fp pins) _ s8 σ7 H8 (.ref s.heap.objs.size) [y] (.ref s.heap.objs.size) [yv] (fun _ H9=>H9=upd H8 s.heap.objs.size (.lst (ys++[y]))) I8 rfl (.cons r8 .nil) ⟨_,ys,y,rfl,rfl,ha8,hsz8,rfl⟩) fun _ s9 ⟨_,H9,I9,_,e9⟩=>?_;subst e9;obtain ⟨m',hm',w8⟩:=hN _ _ w8;refine ⟨m',hm',i+1,ys++[y],_,I9.unpinned.weak wk7.1 wk7.2,T.keep _ _ _ st6 fun b hb o e=>(I9.pin (b,o) (List.mem_append_right _ (List.mem_append_right _ (qu hb e)))).1,fun b hb=>?_,w8⟩;obtain ⟨o,e,d⟩:=T.obj _ _ st6 b hb;exact (I9.pin (b,o) (List.mem_append_right _ (List.mem_append_right _ (qu hb e)))).2.1
 exact codeAny_compStart_list (loop _ rfl) (T.self _ 0 _ _ _ (T.keep 0 _ _ st (fun b _ o e=>old b o e)) (loop _ rfl))
theorem Jf {pins:List (Addr×Obj)} {s:Shared} {σ:St} {H:Hp} (I:Inv X pins σ H s) (S:yV X.N X.env.scope scope N' caps) :
  ∃ cl,closureFor scope X.env=pure cl∧(∀ x c,cl.lookup x=some c→X.env.cells.lookup x=some c)∧∀ x∈scope.names,x.2=.free→∃ c,cl.lookup x.1=some c :=
 YD fun x hx hf=>I.ok.has x.1 (S.frees x hx hf)
theorem yS {N:List Str} {sc0:Scope} (S:yV N sc0 scope N' caps) (hc:X.calm=true) (hi:PI X tg iter wi)
  (hg:∀ cl C s H ex pins,PG (blk X N' scope cl C s H ex pins) tg g) (he:∀ cl C s H ex pins,PE (blk X N' scope cl C s H ex pins) elt te)
  (hs:∀ x,foldedSetIterable iter X.env x=pure x:=by intro _;rfl) (hN0:X.N=N:=by rfl) (h00:X.env.scope=sc0:=by rfl):PE X (.ListComp elt [⟨tg,iter,[],0⟩] scope pos) (Va wi g te caps):=by
 subst hN0 h00;intro pins s σ H Q I h;obtain ⟨cl,hclos,hcl1,hcl2⟩:=Jf I S;rw [eval_ListComp];refine wpAny_comprehension_free (use:=none) rfl hs hclos S.kind S.names (thn (hi pins s σ H _ I h) fun xv s1 h1=>thn h1 fun itv s2 h2=>?_);obtain ⟨it,fp,tn,J,H2,e,I2,T,st2,f2,R⟩:=h2;subst e;refine kh (RR:=fun acc C=>compPost (model X.prog X.w) X.A X.xe none (EP X pins σ Q) acc C) hc S hg he hcl1 hcl2 I2 T st2 f2 R ?_;intro acc C H' s' m hC hm J' hn q;exact ⟨m,hm,fun h' hs'=>⟨.ref _,H',I2.letC hC J' hn hs',rfl,q⟩⟩
theorem Yk {i:Nat} {x:Str} {pos' spos:Pos} {N:List Str} {sc0:Scope} (S:yV N sc0 scope N' caps) (hc:X.calm=true) (hN:X.N.Nodup) (hi':X.N[i]?=some x) (hx:Loc X.env.scope x) (hi:PI X tg iter wi)
  (hg:∀ cl C s H ex pins,PG (blk X N' scope cl C s H ex pins) tg g) (he:∀ cl C s H ex pins,PE (blk X N' scope cl C s H ex pins) elt te)
  (hsw:swapsWith (.ListComp elt [⟨tg,iter,[],0⟩] scope pos) (some (.Name x pos')) spos.line X.env=pure true:=by rfl)
  (hf:X.fn x=true∨X.env.scope.names.lookup x=some .local:=by first | exact .inl rfl | exact .inr rfl | assumption)
  (hs:∀ x,foldedSetIterable iter X.env x=pure x:=by intro _;rfl) (hN0:X.N=N:=by rfl) (h00:X.env.scope=sc0:=by rfl):PS X (.Assign [.Name x pos'] (.ListComp elt [⟨tg,iter,[],0⟩] scope pos) spos) (YQ (Va wi g te caps) (zw i)):=by
 subst hN0 h00;intro pins s σ H D I h;obtain ⟨cl,hclos,hcl1,hcl2⟩:=Jf I S;rw [exec_Assign_Name_used _ _ _ _ hsw];refine wpAny_bind (wpAny_standAt (wpAny_bind ?_));show wpAny _ X.A (do let _ ← comprehension (.ListComp elt [⟨tg,iter,[],0⟩] scope pos) scope X.env _ (newList []) false (eval iter X.env) (some (assign (.Name x pos') X.env))) _ _ s;refine wpAny_bind (wpAny_mono (wpAny_comprehension_free (use:=some (assign (.Name x pos') X.env)) (Q:=fun _ s'=>SP X pins D .next s') rfl hs hclos S.kind S.names
  (thn (hi pins s σ H _ I h) fun xv s1 h1=>thn h1 fun itv s2 h2=>?_)) (fun _ s' hq=>wpAny_pure (wpAny_pure hq)) fun _ _ e=>e)
 obtain ⟨it,fp,tn,J,H2,e,I2,T,st2,f2,R⟩:=h2;subst e;refine kh (Q:=fun x H1=>zw i x σ H1 D.nx) (RR:=fun acc C=>compPost (model X.prog X.w) X.A X.xe (some (assign (.Name x pos') X.env)) (fun _ s'=>SP X pins D .next s') acc C) hc S hg he hcl1 hcl2 I2 T st2 f2 R ?_;intro acc C H' s' m hC hm J' hn q;obtain ⟨o,es,ep,ho,hd,hr⟩:=id hm;have hCL:C≠X.env.locals:=Nat.ne_of_gt (Nat.lt_of_lt_of_le I2.lt hC);have JP:Inv X (pins++[(C,o)]) σ H' s':=J'.pins_of fun p hp=>by
  rcases List.mem_append.mp hp with hp | hp
  ·exact J'.pin p (List.mem_append_right _ hp)
  ·have e:=List.mem_singleton.mp hp;subst e;exact ⟨ho,hn,hCL,I2.nofs hC,fun v z=>by have z':o.data=.cell v:=z;rw [hd] at z';cases z'⟩
 show wpAny _ X.A (assign (.Name x pos') X.env (.ref acc)) _ _ s';refine thn (jL hN hi' hx hf (pins++[(C,o)]) s' σ H' (.ref acc) (.ref acc) D.nx JP rfl q) fun _ s'' ⟨σ'',H'',J'',q''⟩=>?_;have hp:=J''.pin (C,o) (List.mem_append_right _ (List.mem_append_right _ (List.mem_singleton.mpr rfl)));exact ⟨m,⟨o,es,ep,hp.1,hd,hr⟩,fun h' hs'=>⟨σ'',H'',I2.letC hC J''.unpinned hp.2.1 hs',q''⟩⟩
end
theorem yF {K:PySem.W.Frag} {a:Addr} {xs:List V} {g:TG} {te:TE} {caps:List (Option Nat)} {σ:St} {H:Hp} {Q:VK} (Pv:Addr→Nat→List V→Hp→Prop) (h0:∀ acc,H acc=none→Pv acc 0 [] (upd H acc (.lst [])))
  (hl:∀ acc i ys H',H acc=none→i≤xs.length→Pv acc i ys H'→SqL K H' a xs)
  (hs:∀ acc i x ys H',H acc=none→xs[i]?=some x→Pv acc i ys H'→g x (yx caps σ) H' fun σ2 H2=>Wk (yx caps σ) σ2∧te σ2 H2 fun y H3=>H3 acc=some (.lst ys)∧ys.length < sizeLine∧Pv acc (i+1) (ys++[y]) (upd H3 acc (.lst (ys++[y]))))
  (hd:∀ acc ys H',H acc=none→Pv acc xs.length ys H'→Q (.ref acc) H'):Qc caps g te σ Q (Itl K a) H:=by
 intro acc hacc;refine ⟨fun i m ys H=>m=xs.length - i∧i≤xs.length∧Pv acc i ys H,⟨xs.length,by simp,Nat.zero_le _,h0 acc hacc⟩,?_⟩
 rintro i m ys H' ⟨rfl,hi,p⟩
 have q:=hl acc i ys H' hacc hi p
 by_cases hlt:i < xs.length
 ·refine .inr ⟨⟨xs,xs[i],q,by simp [hlt]⟩,Pv acc (i+1),fun ys' H' p'=>⟨xs.length - (i+1),by omega,rfl,hlt,p'⟩,fun x H'' y=>?_⟩;obtain ⟨e,y⟩:=y;subst e;exact hs acc i x ys _ hacc (y xs q) p
 ·have e:i=xs.length:=by omega
  subst e;exact .inl ⟨⟨xs,q,Nat.le_refl _⟩,hd acc ys H' hacc p⟩
theorem zP {lo:Int} {n:Nat} {g:TG} {te:TE} {caps:List (Option Nat)} {σ:St} {H:Hp} {Q:VK} (Pv:Addr→Nat→List V→Hp→Prop) (h0:∀ acc,H acc=none→Pv acc 0 [] (upd H acc (.lst [])))
  (hs:∀ acc i ys H',H acc=none→i < n→Pv acc i ys H'→g (.int (lo+i)) (yx caps σ) H' fun σ2 H2=>Wk (yx caps σ) σ2∧te σ2 H2 fun y H3=>H3 acc=some (.lst ys)∧ys.length < sizeLine∧Pv acc (i+1) (ys++[y]) (upd H3 acc (.lst (ys++[y]))))
  (hd:∀ acc ys H',H acc=none→Pv acc n ys H'→Q (.ref acc) H'):Qc caps g te σ Q (Itr lo n) H:=by
 intro acc hacc;refine ⟨fun i m ys H=>m=n - i∧i≤n∧Pv acc i ys H,⟨n,by simp,Nat.zero_le _,h0 acc hacc⟩,?_⟩
 rintro i m ys H' ⟨rfl,hi,p⟩
 by_cases hlt:i < n
 ·refine .inr ⟨hlt,Pv acc (i+1),fun ys' H' p'=>⟨n - (i+1),by omega,rfl,hlt,p'⟩,fun x H'' y=>?_⟩;obtain ⟨e,y⟩:=y;subst e y;exact hs acc i ys _ hacc hlt p
 ·have e:i=n:=by omega
  subst e;exact .inl ⟨Nat.le_refl _,hd acc ys H' hacc p⟩
def cvV:V→Option Value
 | .ty n=>some (.type n)
 | .ref a=>some (.ref a)
 | _=>none
section
variable {X:Cx}
theorem QX:zC X (.builtin "isinstance") (fun xs H Q=>∃ x c t cv b,xs=[x,c]∧vM X.K H x t∧cvV c=some cv∧PySem.W.kitOne X.K t cv=some b∧Q (.bl b) H):=by
 intro pins s σ H xs us Q I r h;obtain ⟨x,c,t,cv,b,rfl,ty,hc,hk,q⟩:=h;obtain ⟨u,w',rfl,r1,r2⟩:=wR r;have e:w'=cv:=by
  cases c with
  | ty n=>have h1:w'=Value.type n:=r2;have h2:some (Value.type n)=some cv:=hc;cases h2;exact h1
  | ref a=>have h1:w'=Value.ref a:=r2;have h2:some (Value.ref a)=some cv:=hc;cases h2;exact h1
  | non=>cases hc
  | bl _=>cases hc
  | int _=>cases hc
  | str _=>cases hc
  | byt _=>cases hc
  | flt _=>cases hc
 subst e;exact ZM I r1 ty hk fun tk=>⟨.bl b,H,I.tok tk,rfl,q⟩
theorem UG (hu:X.A.units+64 < cLine):OpR X (compareOp .Eq) (fun x y H Q=>∃ (a b:Addr) (ns ms:List Int),x=.ref a∧y=.ref b∧SqL X.K H a (ns.map V.int)∧SqL X.K H b (ms.map V.int)∧Q (.bl (decide (ns=ms))) H):=by
 intro pins s σ H x y v u Q I rx ry h;obtain ⟨a,b,ns,ms,rfl,rfl,ha,hb,q⟩:=h;cases rx;cases ry;obtain ⟨its,rv,p,_⟩:=I.list ha;obtain ⟨its',rv',p',_⟩:=I.list hb;exact PySem.W.ke_eq_ints p.isList p'.isList (zT rv) (zT rv') hu ⟨.bl _,H,I,rfl,q⟩
end
mutual
inductive Dt (K:PySem.W.Frag) (H:Hp):V→PyData→Prop where
 | non:Dt K H .non .none
 | bl (b:Bool):Dt K H (.bl b) (.bool b)
 | int (i:Int):Dt K H (.int i) (.int i)
 | str (x:Str):Dt K H (.str x) (.str x)
 | lst {a:Addr} {xs:List V} {ds:List PyData}:SqL K H a xs→Dts K H xs ds→Dt K H (.ref a) (.list ds)
 | tup {a:Addr} {xs:List V} {ds:List PyData}:SqT K H a xs→Dts K H xs ds→Dt K H (.ref a) (.tuple ds)
inductive Dts (K:PySem.W.Frag) (H:Hp):List V→List PyData→Prop where
 | nil:Dts K H [] []
 | cons {x:V} {xs:List V} {d:PyData} {ds:List PyData}:Dt K H x d→Dts K H xs ds→Dts K H (x :: xs) (d :: ds)
end
section
variable {X:Cx} {pins:List (Addr×Obj)} {σ:St} {H:Hp} {s:Shared}
mutual
theorem Dt.reads (I:Inv X pins σ H s):∀ {x:V} {d:PyData} {u:Value},Dt X.K H x d→jr x u→∃ as,Reads s.heap u d as
 | _,_,_,.non,r=>by cases r;exact ⟨_,.none⟩
 | _,_,_,.bl b,r=>by cases r;exact ⟨_,.bool b⟩
 | _,_,_,.int i,r=>by obtain ⟨t,rfl⟩:=r;exact ⟨_,.int i t⟩
 | _,_,_,.str x,r=>by obtain ⟨t,rfl⟩:=r;exact ⟨_,.str x t⟩
 | _,_,_,.lst h hs,r=>by
  cases r;obtain ⟨its,rv,p,_⟩:=I.list h;obtain ⟨as,q⟩:=Dts.reads I hs rv;obtain ⟨o,ho,hc,n,hd⟩:=p.isList;exact ⟨_,.list ho hc hd (by simpa using q)⟩
 | _,_,_,.tup h hs,r=>by
  cases r;obtain ⟨its,rv,p,_⟩:=I.tuple h;obtain ⟨as,q⟩:=Dts.reads I hs rv;obtain ⟨o,ho,hc,n,hd⟩:=p;exact ⟨_,.tuple ho hc hd (by simpa using q)⟩
theorem Dts.reads (I:Inv X pins σ H s):∀ {xs:List V} {ds:List PyData} {us:List Value},Dts X.K H xs ds→jw xs us→∃ as,ReadsAll s.heap us ds as
 | _,_,_,.nil,r=>by cases r;exact ⟨_,.nil⟩
 | _,_,_,.cons h hs,r=>by
  cases r with
  | cons r rr =>
   obtain ⟨as,q⟩:=Dt.reads I h r;obtain ⟨bs,q'⟩:=Dts.reads I hs rr;exact ⟨_,.cons q q'⟩
end
end
section
variable {X:Cx}
theorem Kw (hu:X.A.units+64 < cLine):OpR X (compareOp .Eq) (fun x y H Q=>∃ d e,Dt X.K H x d∧Dt X.K H y e∧SeqAt.shaped d=true∧SeqAt.shaped e=true∧Q (.bl (PyData.eqv d e)) H):=by
 intro pins s σ H x y v u Q I rx ry h;obtain ⟨d,e,hd,he,sd,se,q⟩:=h;obtain ⟨as,r1⟩:=hd.reads I rx;obtain ⟨bs,r2⟩:=he.reads I ry;exact eq_dataH r1 r2 sd se hu ⟨.bl _,H,I,rfl,q⟩
end
end L2
namespace L2
open PySem PySem.Spec PyProof.Rows
section
variable {t u:TS} {te ta tb tc:TE} {tt uu:TT} {tar:TA} {g:TG} {D:Ends} {σ:St} {H:Hp} {Q:VK} {QB:Bool→Hp→Prop} {QL:List V→Hp→Prop} {QS:St→Hp→Prop} {v x y:V} {i j:Int} {n:Nat} {K:PySem.W.Frag}
theorem wZ (h:t { D with nx:=u D } σ H):VC t u D σ H:=h
theorem Ub (h:D.nx σ H):KU D σ H:=h
theorem j0o {f b c:St→Hp→Prop} {r:VK} (h:f σ H):Ends.nx ⟨f,r,b,c⟩ σ H:=h
theorem j0u {f b c:St→Hp→Prop} {r:VK} (h:r v H):Ends.rt ⟨f,r,b,c⟩ v H:=h
theorem WK (h:te σ H fun x H1=>g x σ H1 D.nx):YQ te g D σ H:=h
theorem XO (h:QS (σ.set n (some v)) H):zw n v σ H QS:=h
theorem Kn {to ti:TE} {ts:X8} (h:to σ H fun o H1=>ti σ H1 fun i H2=>ts o i v H2 fun H3=>QS σ H3):j0W to ti ts v σ H QS:=h
theorem U9 (h:te σ H fun _ H1=>D.nx σ H1):KP te D σ H:=h
theorem WU (h:te σ H D.rt):wM te D σ H:=h
theorem j0F (h:tt σ H fun b H1=>if b=true then t D σ H1 else u D σ H1):j0Y tt t u D σ H:=h
theorem Wu (e:σ[n]?=some (some v)) (h:Q v H):XF n σ H Q:=⟨v,e,h⟩
theorem r_C (h:Q v H):tC v σ H Q:=h
theorem j0n {r:R2} (h:ta σ H fun x H1=>tb σ H1 fun y H2=>r x y H2 Q):tOp r ta tb σ H Q:=h
theorem j1G {r:V→Hp→VK→Prop} (h:ta σ H fun x H1=>r x H1 Q):tUn r ta σ H Q:=h
theorem U8 (h:te σ H fun x H'=>∃ k,x=.bl k∧QB k H'):Zv te σ H QB:=h
theorem j1H (h:te σ H fun x H'=>∃ k,x=.bl k∧QB k H'):tB te σ H QB:=h
theorem j0k {k:Bool} {Q:Bool→Prop} (h:Q k):∃ k',V.bl k=.bl k'∧Q k':=⟨k,rfl,h⟩
theorem W8 (h:tt σ H fun c H1=>if c=true then uu σ H1 QB else QB false H1):j0e tt uu σ H QB:=h
theorem j1L (h:tt σ H fun c H1=>if c=true then QB true H1 else uu σ H1 QB):tOr tt uu σ H QB:=h
theorem wo (h:tt σ H fun c H1=>QB (!c) H1):wH tt σ H QB:=h
theorem U3 (h:ta σ H fun x H1=>∃ c,x=.bl c∧if c=true then tb σ H1 Q else Q (.bl false) H1):KC ta tb σ H Q:=h
theorem UK (h:ta σ H fun x H1=>∃ c,x=.bl c∧Q (.bl (!c)) H1):K6 ta σ H Q:=h
theorem X6 {r r':R2} (h:ta σ H fun x H1=>tb σ H1 fun y H2=>r x y H2 fun z H3=>∃ k,z=.bl k∧(if k=true then tc σ H3 fun w' H4=>r' y w' H4 Q else Q (.bl false) H3)):Vk r r' ta tb tc σ H Q:=h
theorem Kz {sp:Sp} {dvs:List V} {E:XK} (h:tar σ H fun vs H1=>sp (vs++dvs) H1 Q E):KH sp dvs E tar σ H Q:=h
theorem j1E {r:List V→Hp→VK→Prop} (h:tar σ H fun vs H1=>r vs H1 Q):tCB r tar σ H Q:=h
theorem Kv (h:ta σ H fun x H1=>tar σ H1 fun xs H2=>QL (x :: xs) H2):VW ta tar σ H QL:=h
theorem Wa (h:QL [] H):XU σ H QL:=h
theorem j0O (h:tar σ H fun xs H1=>xs.length≤sizeLine∧∀ p,H1 p=none→Q (.ref p) (upd H1 p (.lst xs))):wu tar σ H Q:=h
theorem Wp (h:tar σ H fun xs H1=>xs.length≤sizeLine∧∀ p,H1 p=none→Q (.ref p) (upd H1 p (.tup xs))):wE tar σ H Q:=h
theorem j0z {f:Int→Int→V} (h:Q (f i j) H):rI0 f (.int i) (.int j) H Q:=⟨i,j,rfl,rfl,h⟩
theorem r_I {C:Int→Int→Prop} {f:Int→Int→V} (hc:C i j) (h:Q (f i j) H):rI C f (.int i) (.int j) H Q:=⟨i,j,rfl,rfl,hc,h⟩
theorem r_U {f:Int→V} (h:Q (f i) H):rU f (.int i) H Q:=⟨i,rfl,h⟩
theorem Zy (hs:Xj x y=true) (h:Q (.bl (decide (x=y))) H):rEq x y H Q:=⟨hs,h⟩
theorem v7 (hs:Xj x y=true) (h:Q (.bl (!decide (x=y))) H):rNe x y H Q:=⟨hs,h⟩
theorem ji {p:Addr} {xs:List V} (hs:SqL K H p xs) (ha:atI xs i=some v) (h:Q v H):U4 K (.ref p) (.int i) H Q:=⟨p,xs,i,v,rfl,rfl,hs,ha,h⟩
theorem j1N {T:String} {r:V→List V→Hp→VK→Prop} {to:TE} (h:to σ H fun x H1=>tyV K T x H1∧tar σ H1 fun xs H2=>r x xs H2 Q):tBM K T r to tar σ H Q:=h
theorem xw {a:Addr} {f:Str} (h:ta σ H fun x H1=>∃ a C dx fs v,x=.ref a∧H1 a=some (.ins C dx fs)∧Cls K C∧qW K C f∧fs.lookup f=some v∧Q v H1):UW K ta f σ H Q:=h
theorem yo {A B:Prop} {c:Bool} (h1:c=true→A) (h2:c=false→B):if c=true then A else B:=by
 cases c with
 | true=>exact h1 rfl
 | false=>exact h2 rfl
theorem qK {A B:Prop} {c:Bool} (hc:c=true) (h1:A):if c=true then A else B:=by rw [if_pos hc];exact h1
theorem jU {A B:Prop} {c:Bool} (hc:c=false) (h1:B):if c=true then A else B:=by rw [if_neg (by rw [hc];decide)];exact h1
theorem j7.upd_new {H:Hp} {p:Addr} {o:HO} (h:H p=none):j7 H (upd H p o):=fun b u e=>by rw [j5 (jA e h)];exact e
theorem qa {K:PySem.W.Frag} {H H':Hp} {a:Addr} {xs:List V} (e:j7 H H') (h:SqL K H a xs):SqL K H' a xs:=e.seq h
theorem js {α:Type} {xs:List α} {i:Int} {v:α} (h0:0≤i) (h:xs[i.toNat]?=some v):atI xs i=some v:=by
 have:=jY (xs:=xs) (j:=i.toNat) h
 rwa [Int.toNat_of_nonneg h0] at this
end
end L2
namespace L2
open PySem PySem.Spec PyProof.Rows
section
variable {wi:TI} {g:TG} {tb:TS} {te tl:TE} {ta:TA} {D:Ends} {σ:St} {H:Hp} {Q:VK} {R:It→Hp→Prop} {caps:List (Option Nat)} {K:PySem.W.Frag}
theorem Ws (h:wi σ H fun J H1=>∃ W:Nat→Nat→St→Hp→Prop,(∃ m,W 0 m σ H1)∧∀ i m σ H,W i m σ H →
  (J.stop i H∧D.nx σ H)∨(J.go i H∧∃ N:St→Hp→Prop,(∀ σ' H',N σ' H'→∃ m',m' < m∧W (i+1) m' σ' H')∧∀ x H',J.yld i H x H'→g x σ H' fun σ2 H2=>tb { D with nx:=N,ct:=N,bk:=D.nx } σ2 H2)):j0N wi g tb D σ H:=h
theorem UM (h:ta σ H fun vs H1=>∃ j:Int,vs=[.int j]∧-(2 ^ 62)≤j∧j < 2 ^ 62∧R (Itr 0 j.toNat) H1):Xs ta σ H R:=h
theorem Kx (h:ta σ H fun vs H1=>∃ i j:Int,vs=[.int i,.int j]∧(-(2 ^ 62)≤i∧i < 2 ^ 62∧-(2 ^ 62)≤j∧j < 2 ^ 62)∧R (Itr i (j - i).toNat) H1):KE ta σ H R:=h
theorem XL (h:tl σ H fun x H1=>∃ a,x=.ref a∧(∃ xs,SqL K H1 a xs)∧R (Itl K a) H1):Vg K tl σ H R:=h
theorem Xd (h:ta σ H fun vs H1=>∃ a,vs=[.ref a]∧(∃ xs,SqL K H1 a xs)∧R (Ite K a) H1):Zz K ta σ H R:=h
theorem UL (h:wi σ H fun J H1=>Qc caps g te σ Q J H1):Va wi g te caps σ H Q:=h
theorem UV {C:Addr} {m:Str} {sp:Sp} {dvs:List V} {E:XK} {to:TE} (h:to σ H fun x H1=>∃ a dx fs,x=.ref a∧H1 a=some (.ins C dx fs)∧fs.lookup m=none∧ta σ H1 fun vs H2=>sp (x :: (vs++dvs)) H2 Q E):V5 C m sp dvs E to ta σ H Q:=h
theorem Kr {C:Addr} {sp:Sp} {dvs:List V} {E:XK} (h:ta σ H fun vs H1=>∀ x dx,H1 x=none→H1 dx=none→dx≠x →
 sp (.ref x :: (vs++dvs)) (upd (upd H1 dx (.own x)) x (.ins C dx [])) (fun v H2=>v=.non∧Q (.ref x) H2) E):Kh C sp dvs E ta σ H Q:=h
theorem UY {tv to:TE} {f:Str} (h:tv σ H fun y H1=>to σ H1 fun x H2=>∃ a C dx fs,x=.ref a∧H2 a=some (.ins C dx fs)∧Cls K C∧qW K C f∧fs.length < 1000 ∧
 D.nx σ (upd H2 a (.ins C dx (jo f y fs)))):Km K to tv f D σ H:=h
end
end L2
namespace L2
open PySem PySem.Spec PyProof.Rows
section
variable {X:Cx} (K:PySem.W.Frag)
theorem jB (hK:X.K=K:=by rfl):zC X (.builtin "len") (fun xs H Q=>∃ p ys,xs=[.ref p]∧(SqL K H p ys∨SqT K H p ys)∧Q (.int ys.length) H):=by subst hK;exact Jw
theorem yw (hK:X.K=K:=by rfl):zC X (.type "list") (fun xs H Q=>∃ p ys,xs=[.ref p]∧(SqL K H p ys∨SqT K H p ys)∧∀ l,H l=none→Q (.ref l) (upd H l (.lst ys))):=by subst hK;exact JX
theorem ju (hK:X.K=K:=by rfl):zC X (.type "tuple") (fun xs H Q=>∃ p ys,xs=[.ref p]∧((SqL K H p ys∧∀ l,H l=none→Q (.ref l) (upd H l (.tup ys)))∨(SqT K H p ys∧Q (.ref p) H))):=by subst hK;exact kJ
theorem qQ (hK:X.K=K:=by rfl):zC X (.builtin "isinstance") (fun xs H Q=>∃ x c t cv b,xs=[x,c]∧vM K H x t∧cvV c=some cv∧PySem.W.kitOne K t cv=some b∧Q (.bl b) H):=by subst hK;exact QX
theorem jE (hK:X.K=K:=by rfl):IxR X (U4 K):=by subst hK;exact XN
theorem zV (hK:X.K=K:=by rfl):IxR X (W9 K):=by subst hK;exact Up
theorem jJ {e:Expr} {f:Str} {pos:Pos} {ta:TE} (he:PE X e ta) (hb:attributeBase e f X.env (eval e X.env)=eval e X.env) (hK:X.K=K:=by rfl):PE X (.Attribute e f pos) (UW K ta f):=by subst hK;exact Ks he hb
theorem qx {o value:Expr} {f:Str} {pos pos':Pos} {ta tv:TE} (ha:PE X o ta) (hv:PE X value tv) (hs:swapsWith value (some (.Attribute o f pos')) pos.line X.env=pure false) (hK:X.K=K:=by rfl):PS X (.Assign [.Attribute o f pos'] value pos) (Km K ta tv f):=by subst hK;exact Um ha hv hs
theorem qc {o e:Expr} {es:List Expr} {to:TE} {t:TA} {name:Str} {apos cpos:Pos} {T id:String} {r:V→List V→Hp→VK→Prop} (pa:PlainAttrs T) (slot:Slot T name id) (hty:typeOf (.builtin id)=pure (.type "method_descriptor")) (hm:MtR X id r) (ho:PE X o to) (ha:PA X (e :: es) t)
  (hbase:attributeBase o name X.env (eval o X.env)=eval o X.env:=by rfl) (hfew:((backTo cpos (starEach (e :: es) X.env)).all (fun x=>!x.1) && (backToKw cpos (keywordEach [] X.env)).all (fun x=>x.1.isSome)
   && decide ((e :: es).length+([]:List Keyword).length+(if ([]:List Keyword).isEmpty then 0 else 1) < 30))=true:=by rfl)
  (hline:(apos.endLine == cpos.line)=true:=by rfl) (hs:starEach (e :: es) X.env=(false,eval e X.env) :: starEach es X.env:=by rfl) (hplain:(backTo cpos (starEach es X.env)).any (·.1)=false:=by rfl) (hK:X.K=K:=by rfl) :
  PE X (.Call (.Attribute o name apos) (e :: es) [] cpos) (tBM K T r to t):=by subst hK;exact Wr pa slot hty hm ho ha hbase hfew hline hs hplain
theorem jp {tg l:Expr} {tl:TE} (hl:PE X l tl) (hK:X.K=K:=by rfl):PI X tg l (Vg K tl):=by subst hK;exact XI hl
theorem kC {es:List Expr} {kk:Nat} {p0:Pos} {l:Expr} {ta:TA} {p pos:Pos} (hg:Gl X "enumerate") (hm:X.mg "enumerate"=none) (ha:PA X [l] ta) (hs:starEach [l] X.env=[(false,eval l X.env)]:=by rfl) (hK:X.K=K:=by rfl):PI X (.Tuple es kk p0) (.Call (.Name "enumerate" p) [l] [] pos) (Zz K ta):=by subst hK;exact XB hg hm ha hs
theorem zq {pos:Pos} {es:List Expr} {k:Nat} {t:TGs} {n:Nat} (hc:X.calm=true) (h:PGs X es t) (hn:(assignEach es X.env).length=n:=by rfl) (hst:(assignEach es X.env).findIdx? (·.1)=none:=by rfl) (hK:X.K=K:=by rfl):PG X (.Tuple es k pos) (wP K n t):=by subst hK;exact UE hc h hn hst
theorem Vz (hu:X.A.units+64 < cLine) (hK:X.K=K:=by rfl):OpR X (compareOp .Eq) (fun x y H Q=>∃ (a b:Addr) (ns ms:List Int),x=.ref a∧y=.ref b∧SqL K H a (ns.map V.int)∧SqL K H b (ms.map V.int)∧Q (.bl (decide (ns=ms))) H):=by subst hK;exact UG hu
theorem Vx (hu:X.A.units+64 < cLine) (hK:X.K=K:=by rfl):OpR X (compareOp .Eq) (fun x y H Q=>∃ d e,Dt K H x d∧Dt K H y e∧SeqAt.shaped d=true∧SeqAt.shaped e=true∧Q (.bl (PyData.eqv d e)) H):=by subst hK;exact Kw hu
end
end L2
namespace L2
open PySem PySem.Spec PyProof.Rows
def KY (t:TS):TS:=fun D σ H=>∃ P:St→Hp→Prop,t { D with nx:=P } σ H∧∀ σ' H',P σ' H'→D.nx σ' H'
theorem qV {X:Cx} {st:Stmt} {t:TS} (h:PS X st t):PS X st (KY t):=by
 intro pins s σ H D I hw;obtain ⟨P,h1,h2⟩:=hw;refine thn (h pins s σ H _ I h1) fun f s' q=>?_;cases f with
 | next=>obtain ⟨σ',H',I',q⟩:=q;exact ⟨σ',H',I',h2 σ' H' q⟩
 | brk=>exact q
 | cont=>exact q
 | ret v=>exact q
theorem qp {t:TS} {D:Ends} {σ:St} {H:Hp} (P:St→Hp→Prop) (h1:t { D with nx:=P } σ H) (h2:∀ σ' H',P σ' H'→D.nx σ' H'):KY t D σ H:=⟨P,h1,h2⟩
end L2
namespace My
open PySem L2
def zY (ns:List Int) (k:Int):Int:=if k < ns.length then ns.getD k.toNat 0 else 0
def j0c (c k:Int):Int:=(c % 2147483647+977 * k+1) * 48271 % 2147483647
def WX (s k:Int):Int:=(s+40692 * (k+3)) * 69621 % 2147483629
def Qs (c k b:Int):Int:=WX (j0c c k) k / 8 % b
theorem XQ (c k:Int) {b:Int} (h:0 < b):0≤Qs c k b:=Int.emod_nonneg _ (by omega)
theorem XX (c k:Int) {b:Int} (h:0 < b):Qs c k b < b:=Int.emod_lt_of_pos _ h
def kX (c:Int) (d r:Int) (k:Nat):List Int:=(List.range d.toNat).map fun (j:Nat)=>Qs c (7 * (k:Int)+(j:Int)) r
def zj (c d r:Int):List (List Int):=(List.range r.toNat).map (kX c d r)
def zr (c r:Int):List Bool:=(List.range r.toNat).map fun (k:Nat)=>decide (Qs c (k:Int) 2=1)
def step (rss:List (List Int)) (q d:Int):Int:=(rss.getD q.toNat []).getD d.toNat 0
def jF (rss:List (List Int)) (q:Int) (w:List Int):Int:=w.foldl (step rss) q
def Ja (rss:List (List Int)) (w:List Int):List Int:=(List.range (w.length+1)).map fun j=>jF rss 0 (w.take j)
structure Ways (d:Int) (rss:List (List Int)):Prop where
 row:∀ row∈rss,(row.length:Int)=d∧∀ x∈row,0≤x∧x < rss.length
structure zA (d:Int) (rss:List (List Int)) (ls:List Bool):Prop extends Ways d rss where
 d1:1≤d
 d6:d≤6
 r1:1≤rss.length
 r400:rss.length≤400
 ll:ls.length=rss.length
def jD (d:Int) (w:List Int):Prop:=∀ x∈w,0≤x∧x < d
theorem yT {d:Int} {rss:List (List Int)} (W:Ways d rss) {q x:Int} (h0:0≤q) (h1:q < rss.length) (x0:0≤x) (x1:x < d) :
  ∃ row,rss[q.toNat]?=some row∧row[x.toNat]?=some (step rss q x)∧0≤step rss q x∧step rss q x < rss.length:=by
 have hq:q.toNat < rss.length:=by omega
 obtain ⟨hl,hr⟩:=W.row rss[q.toNat] (List.getElem_mem hq);have hx:x.toNat < rss[q.toNat].length:=by omega
 have e:step rss q x=rss[q.toNat][x.toNat]:=by
  unfold step;have e1:rss.getD q.toNat []=rss[q.toNat]:=by rw [List.getD_eq_getElem?_getD,List.getElem?_eq_getElem hq,Option.getD_some]
  rw [e1,List.getD_eq_getElem?_getD,List.getElem?_eq_getElem hx,Option.getD_some]
 obtain ⟨a,b⟩:=hr _ (List.getElem_mem hx);exact ⟨rss[q.toNat],List.getElem?_eq_getElem hq,by rw [e];exact List.getElem?_eq_getElem hx,by rw [e];exact a,by rw [e];exact b⟩
theorem q0 {d:Int} {rss:List (List Int)} (W:Ways d rss):∀ {w:List Int} {q:Int},jD d w→0≤q→q < rss.length→0≤jF rss q w∧jF rss q w < rss.length
 | [],q,_,h0,h1=>⟨h0,h1⟩
 | x :: w,q,hw,h0,h1=>by
  obtain ⟨x0,x1⟩:=hw x List.mem_cons_self;obtain ⟨_,_,_,a,b⟩:=yT W h0 h1 x0 x1;exact q0 W (w:=w) (q:=step rss q x) (fun y hy=>hw y (List.mem_cons_of_mem _ hy)) a b
theorem qO (rss:List (List Int)) (q:Int) (w:List Int) (x:Int):jF rss q (w++[x])=step rss (jF rss q w) x:=by
 unfold jF;rw [List.foldl_append];rfl
theorem J6 {w:List Int} {i:Nat} {x:Int} (h:w[i]?=some x):w.take (i+1)=w.take i++[x]:=by
 rw [List.take_add_one,h];rfl
theorem jD.take {d:Int} {w:List Int} (h:jD d w) (i:Nat):jD d (w.take i):=fun x hx=>h x (List.mem_of_mem_take hx)
theorem xR (c d r:Int):(zj c d r).length=r.toNat:=by simp [zj]
theorem Zf (c:Int) {d r:Int} (hd:0≤d) (hr:0 < r):Ways d (zj c d r):=by
 refine ⟨fun row hrow=>?_⟩;unfold zj at hrow;obtain ⟨k,hk,rfl⟩:=List.mem_map.mp hrow;refine ⟨?_,fun x hx=>?_⟩
 ·simp [kX];omega
 ·unfold kX at hx;obtain ⟨j,hj,rfl⟩:=List.mem_map.mp hx;have h1:=XQ c (7 * (k:Int)+(j:Int)) hr;have h2:=XX c (7 * (k:Int)+(j:Int)) hr;rw [xR];exact ⟨h1,by omega⟩
theorem Y1 (c r:Int):(zr c r).length=r.toNat:=by simp [zr]
theorem qS {α:Type} (f:Nat→α) (i:Nat):(List.range (i+1)).map f=(List.range i).map f++[f i]:=by
 rw [List.range_succ,List.map_append];rfl
end My
namespace L2
open PySem PySem.Spec PyProof.Rows
theorem qM.ex {P:Program} {w:World} {H:Hp} {h:Heap} {a:Addr} {o:HO} (x:qM P w H h a o):∃ ob,h.get? a=some ob:=by
 cases o with
 | lst xs=>obtain ⟨_,_,_,_,e⟩:=x;exact ⟨_,e⟩
 | tup xs=>obtain ⟨_,_,_,ob,e,_⟩:=x;exact ⟨_,e⟩
 | dK kvs=>obtain ⟨_,_,_,_,o,_,_,e,_⟩:=x;exact ⟨_,e⟩
 | dT kvs=>obtain ⟨_,_,_,_,o,_,_,e,_⟩:=x;exact ⟨_,e⟩
 | set S n=>obtain ⟨o,_,_,_,e,_⟩:=x;exact ⟨_,e⟩
 | ins C dx fs=>obtain ⟨_,_,_,e,_⟩:=x;exact ⟨_,e⟩
 | own y=>exact x
 | xd fs=>obtain ⟨_,⟨_,_,_,e,_⟩,_⟩:=x;exact ⟨_,e⟩
 | rng lo hi=>obtain ⟨_,_,_,e⟩:=x;exact ⟨_,e⟩
 | frz ob u=>obtain ⟨e,_⟩:=x;exact ⟨_,e⟩
 | tbl ps=>exact ⟨_,x⟩
 | met f y=>exact ⟨_,x⟩
 | ext φ=>exact x.2.1
def CXr (P:Program) (w:World):CXT:=fun outer H s E e s'=>∃ (ea:Addr) (cls a0:Value) (B:Heap) (H':Hp),e=.ref ea∧s'.os=s.os∧AllBare s'.gens∧Un (frs outer) [] H H' s.heap s'.heap∧HOk P w H' s'.heap ∧
 Heap.FlyingW B outer ea cls a0 s'.heap∧(∀ b o,s.heap.get? b=some o→b∉frs outer→∃ o',B.get? b=some o')∧(∀ b u,H' b=some u→∃ o',B.get? b=some o')∧E cls none H'
structure Xp (X:Cx) (E:XK):Prop where
 pass:zU (CXr X.prog X.w) X E
 own:PassesOwn (model X.prog X.w) X.A X.env X.xe
def Xm (X:Cx) (E:XK):Prop:=∀ (pins:List (Addr×Obj)) (σ:St) (H:Hp) (s:Shared) (h':Heap) (e:Addr) (cls:Value) (args:List Value),Inv X pins σ H s→Heap.MadeExcOf s.heap h' e cls args→E cls none H→X.xe (.ref e) { s with heap:=h' }
theorem Qy {X:Cx} {pins:List (Addr×Obj)} {σ:St} {H:Hp} {s1:Shared} (I:Inv X pins σ H s1) (he:X.ex=[]) {B h':Heap} (b1:B.StaysIn s1.heap) (b2:B.StaysIn h')
  (sm:∀ b o,s1.heap.get? b=some o→b∈X.fs→∃ sl,h'.get? b=some { o with slots:=sl }) (d1:∀ b o,X.s₀.heap.get? b=some o→b∉X.fs→∃ o',B.get? b=some o') (d2:∀ b u,H b=some u→∃ o',B.get? b=some o') :
  Un X.fs [] X.H₀ H X.s₀.heap h'∧HOk X.prog X.w H h':=by
 have same:∀ b o,s1.heap.get? b=some o→(∃ o',B.get? b=some o')→h'.get? b=some o:=fun b o e ⟨o',e'⟩=>by
  have z:=b1 b o' e';rw [e] at z;cases z;exact b2 b o e'
 have nx:∀ b,b∉X.ex:=fun b z=>by rw [he] at z;cases z
 refine ⟨⟨fun b o q n hb _=>same b o (I.base.keep b o q n hb (nx b)) (d1 b o q hb),fun b o q n hb _=>?_,fun b o q n _=>I.base.free b o q n (nx b),fun b o q _=>?_,I.base.tups,I.base.frzs,I.base.tbls⟩,fun b u e=>?_⟩
 ·obtain ⟨sl,e1⟩:=I.base.slot b o q n hb (nx b);obtain ⟨sl',e2⟩:=sm b _ e1 hb;exact ⟨sl',e2⟩
 ·obtain ⟨o1,e1⟩:=I.base.there b o q (nx b)
  by_cases hb:b∈X.fs
  ·obtain ⟨sl,e2⟩:=sm b o1 e1 hb;exact ⟨_,e2⟩
  ·exact ⟨_,same b o1 e1 (d1 b o q hb)⟩
 ·refine (I.hok b u e).stay (fun c v hc q=>same c v q ?_) (fun _ q=>q) fun _ _ q=>q;rcases hc with z | z
  ·rw [z];exact d2 b u e
  ·exact d2 c _ z
theorem Inv.offStack {X:Cx} {pins:List (Addr×Obj)} {σ:St} {H:Hp} {s:Shared} (I:Inv X pins σ H s) {b:Addr} {o:Obj} (q:X.s₀.heap.get? b=some o) (hb:b∉X.fs):b∉frs X.stack:=fun z=>by
 rcases List.mem_cons.mp (I.stkSub b z) with z | z
 ·rw [z] at q;exact absurd (Nat.lt_of_lt_of_le (Heap.lt_size q) I.ok.above) (Nat.lt_irrefl _)
 ·exact hb z
theorem Inv.nonrec {X:Cx} {pins:List (Addr×Obj)} {σ:St} {H:Hp} {s:Shared} (I:Inv X pins σ H s) {b:Addr} {o:Obj} (q:s.heap.get? b=some o) (hb:b∈X.fs):∀ vs,o.data≠.fields vs:=by
 obtain ⟨_,o',e,hd⟩:=I.funs.mem hb;rw [q] at e;cases e;exact hd
section
variable {P:Program} {w:World} {K:PySem.W.Frag} {mg:Str→Option Value} {base:Heap} {N:List Str} {qual:Str} {scope:Scope} {f:Addr} {cd:Value} {A:Around} {outer:List Env} {s:Shared} {H:Hp} {E:XK}
theorem yz:Xp (vF (CXr P w) P w K mg base N qual scope f cd A outer s H E) E where
 own:=PassesOwn.leaving
 pass:=by
  intro pins σ H1 s1 e s' I h;obtain ⟨ea,cls,a0,B,H',rfl,ho,hg,u,hok,fl,dm,tr,hE⟩:=h;have I':=I.call' ho u hok hg (fun b hb=>by cases hb);refine wpAny_leaves_onW I.ok.frames rfl fl fun h' fl' sm=>?_;obtain ⟨un,hk⟩:=Qy I' rfl fl.1 fl'.1 (fun b o q hb=>sm b o q (I'.nonrec q hb)) (fun b o q hb=>by
   obtain ⟨o1,e1⟩:=I.base.there b o q (fun z=>by cases z);exact dm b o1 e1 (I.offStack q hb)) tr
  exact ⟨ea,cls,a0,B,H',rfl,I'.os,hg,un,hk,fl',fun b o q hb=>by
   obtain ⟨o1,e1⟩:=I.base.there b o q (fun z=>by cases z);exact dm b o1 e1 (I.offStack q hb),tr,hE⟩
theorem YU:Xm (vF (CXr P w) P w K mg base N qual scope f cd A outer s H E) E:=by
 intro pins σ H1 s1 h' e cls args I mx hE;have hkb:(PySem.W.hideAll s1.heap (frs (vF (CXr P w) P w K mg base N qual scope f cd A outer s H E).stack)).StaysIn s1.heap:=fun b o q=>PySem.W.of_hideAll _ q;have dm:∀ b o,(vF (CXr P w) P w K mg base N qual scope f cd A outer s H E).s₀.heap.get? b=some o→b∉(vF (CXr P w) P w K mg base N qual scope f cd A outer s H E).fs→∃ o',(PySem.W.hideAll s1.heap (frs (vF (CXr P w) P w K mg base N qual scope f cd A outer s H E).stack)).get? b=some o':=fun b o q hb=>by
  obtain ⟨o1,e1⟩:=I.base.there b o q (fun z=>by cases z);exact ⟨o1,PySem.W.hideAll_get _ e1 (I.offStack q hb)⟩
 have tr:∀ b u,H1 b=some u→∃ o',(PySem.W.hideAll s1.heap (frs (vF (CXr P w) P w K mg base N qual scope f cd A outer s H E).stack)).get? b=some o':=fun b u q=>by
  obtain ⟨o1,e1⟩:=(I.hok b u q).ex;exact ⟨o1,PySem.W.hideAll_get _ e1 (fun z=>by rw [I.stkFree b z] at q;cases q)⟩
 refine wpAny_leaves_madeW I.ok.frames rfl hkb (PySem.W.funFrames_hide I.stack fun env he a ha=>List.mem_filterMap.mpr ⟨env,he,ha⟩) mx fun h2 t fl tup hn sm=>?_;obtain ⟨un,hk⟩:=Qy I rfl hkb fl.1 (fun b o q hb=>sm b o (mx.keeps b o q) (I.nonrec q hb)) dm tr;exact ⟨e,cls,.ref t,_,H1,rfl,I.os,I.bare,un,hk,fl,dm,tr,hE⟩
end
theorem Fun.okX {P:Program} {w:World} {K:PySem.W.Frag} {mg:Str→Option Value} {base:Heap} {x qual:Str} {st:Stmt} {f:Addr} {fd:FuncData} {N ps:List Str} {k:Nat} {sp:Sp} (F:Fun K x qual st f fd) (S:jM N ps (j2 st)) (len:∀ vs H Q E,sp vs H Q E→vs.length=ps.length)
  (hbody:∀ (cdv:Value) (A:Around) (outer:List Env) (s:Shared) (H:Hp) (vs:List V) (Q:VK) (E:XK),yB k (A.deeper (envOfC qual (j2 st) s.heap.objs.size f cdv))→sp vs H Q E →
   ∃ t,PSs (vF (CXr P w) P w K mg base N qual (j2 st) f cdv A outer s H E) (j8 st) t∧t { nx:=fun _ H'=>Q .non H',rt:=Q } (start N vs) H) :
  qE P w K mg base (CXr P w) (k+1) f fd ps sp:=by
 obtain ⟨oc,od,kV,doc,pm,an,cdv,ct,osl,rfl,lk,hcd⟩:=F.ex;exact KW lk hcd S len fun A outer s H vs Q E hr h=>hbody cdv A outer s H vs Q E hr h
abbrev bmV:List Value:=[.type "ValueError",.type "Exception",.type "BaseException",.type "object"]
structure ExcCls (K:PySem.W.Frag) (x:Str) (C:Addr):Prop where
 at_:PySem.W.nsIn K mainGlobals x=some (some (.ref C))
 exc:PySem.W.excIn K C bmV "ValueError.__new__"=true
def YV (e:DictEntry):Option Str:=match e.key with
 | .str n _=>some n
 | _=>none
theorem Qf {es:Array DictEntry} (hk:StrKeys es) {x:Str} (h:x∉es.toList.filterMap YV):nsFind es x=none:=by
 cases e:nsFind es x with
 | none=>rfl
 | some v =>
  exfalso;unfold nsFind findBy at e;rw [Option.map_eq_some_iff] at e;obtain ⟨d,hd,_⟩:=e;have hm:=Array.mem_of_find?_eq_some hd;have hp:=Array.find?_some hd;obtain ⟨n,t,hn⟩:=hk d hm;refine h (List.mem_filterMap.mpr ⟨d,by simpa using hm,?_⟩);unfold YV;rw [hn] at hp ⊢;have hp:(Value.str n t).isStr x=true:=hp;simp [Value.isStr] at hp;simp [hp]
theorem XH {K:PySem.W.Frag} {mg:Str→Option Value} {base:Heap} {x:Str} {C:Addr} (M:Mod K mg base) (O:ExcCls K x C):OwnCls x C bmV "ValueError.__new__" mg base:=by
 obtain ⟨mb,hb,hbb⟩:=M.blt;obtain ⟨o,es,ep,ho,hd,hk,hf⟩:=id M.glob;exact PySem.W.own_of_in (p:=default) (loose:=es.toList.filterMap YV) M.kin ⟨M.glob,hb,M.nolimit,hbb,fun y _ hl _ _ _=>by rw [← hf y];exact Qf hk hl⟩ O.at_ O.exc
def Vc (E:XK) (C:Addr) (ta:TA):TS:=fun _ σ H=>ta σ H fun vs H1=>vs.length≤sizeLine∧E (.ref C) none H1
theorem xL {X:Cx} {E:XK} {x:Str} {C:Addr} {e:Expr} {es:List Expr} {ta:TA} {np cpos pos:Pos} (xm:Xm X E) (hc:X.calm=true) (hg:Gl X x) (hm:X.mg x=some (.ref C)) (O:ExcCls X.K x C) (ha:PA X (e :: es) ta)
  (hd:(x == ("__debug__":Str))=false:=by decide) (he:starEach (e :: es) X.env=(false,eval e X.env) :: starEach es X.env:=by rfl) (hpl:(backTo cpos (starEach es X.env)).any (·.1)=false:=by rfl) :
  PS X (.Raise (some (.Call (.Name x np) (e :: es) [] cpos)) none pos) (Vc E C ta):=by
 intro pins s σ H D I h;obtain ⟨tl,Nn,nm,q,bs,hdct,sn,sub,ab,col,dd,k0,k1,k2,k3,k5,mN,hC,hN,hni,T⟩:=(XH I.mod O).obj;refine wpAny_Raise_call_subT (C:=C) (nm:=nm) (q:=q) (N:=Nn) (bs:=bs) (bm:=tl) (hdct:=hdct) (sn:=sn) (sub:=sub) (ab:=ab) (col:=col) (dd:=dd) (k0:=k0) (k1:=k1) (k2:=k2) (k3:=k3) (k5:=k5)
  PySem.F.excBase_ValueError (mN:=mN) (T.hasType PySem.F.excBase_ValueError.hasBase) (I.ok.hd hc) (by rw [he];show (false || (backTo cpos (starEach es X.env)).any (·.1))=false;rw [hpl];rfl) hni (xH I hg hm ⟨rfl,?_⟩ hd)
 have hA:=ha cpos pins s σ H _ I h;rw [he] at hA ⊢;refine Calls.evalArgs_plain (thn hA fun us s2 hh=>?_);obtain ⟨vs,H2,I2,rv,hl,hE⟩:=hh;exact ⟨rfl,by rw [← rv.length];exact hl,I2.bk _ _ hC,hN.keeps I2.bk,T.keeps I2.bk,fun h' ea mx=>xm pins σ H2 s2 h' ea _ _ I2 mx hE⟩
def PJ (X:Cx) (es:List Expr) (t:St→Hp→(Hp→Prop)→Prop):Prop :=
 ∀ (out:Str) (pins:List (Addr×Obj)) (s:Shared) (σ:St) (H:Hp) (Q:VK),out.length+1000 * es.length+1≤sizeLine→Inv X pins σ H s→t σ H (fun H'=>∀ x,Q (.str x) H')→wpAny (model X.prog X.w) X.A (joinParts out (evalEach es X.env)) (EP X pins σ Q) X.xe s
def wm:St→Hp→(Hp→Prop)→Prop:=fun _ H Q=>Q H
def j0L (t:St→Hp→(Hp→Prop)→Prop):St→Hp→(Hp→Prop)→Prop:=t
def WY (te:TE) (t:St→Hp→(Hp→Prop)→Prop):St→Hp→(Hp→Prop)→Prop:=fun σ H Q=>te σ H fun x H1=>∃ i:Int,x=.int i∧i.natAbs.log2 < 64∧t σ H1 Q
def YY (t:St→Hp→(Hp→Prop)→Prop):TE:=fun σ H Q=>t σ H fun H'=>∀ x,Q (.str x) H'
section
variable {X:Cx} {e:Expr} {es:List Expr} {te:TE} {t:St→Hp→(Hp→Prop)→Prop} {pos p1 p2:Pos} {c:Str} {k:Nat}
theorem V0:PJ X [] wm:=fun out pins s σ H Q hz I h=>joinParts_nil ⟨.str out,H,I.tok _,⟨_,rfl⟩,h out⟩ (by omega)
theorem VY (hr:PJ X es t) (hc:c.length≤1000:=by decide):PJ X (.Constant (.str c) k pos :: es) (j0L t):=by
 intro out pins s σ H Q hz I h;refine joinParts_cons (Calls.Constant_str ?_);rw [List.length_cons] at hz;have hl:(out++c).length=out.length+c.length:=strLen_append ..;exact ⟨by rw [hl];omega,hr (out++c) pins _ σ H Q (by rw [hl];omega) (I.tok _) h⟩
theorem Ur (he:PE X e te) (hr:PJ X es t):PJ X (.FormattedValue e (-1) none pos :: es) (WY te t):=by
 intro out pins s σ H Q hz I h;refine joinParts_cons (FormattedValue_plain (thn (he pins s σ H _ I h) fun v s1 hh=>?_));obtain ⟨x,H1,I1,r,i,rfl,hi,h1⟩:=hh;obtain ⟨tk,rfl⟩:=r;rw [List.length_cons] at hz;refine formatField_int_small (Nat.lt_trans hi (by decide)) ?_;have hl:(out++(Str.ofString (toString i))).length=out.length+(Str.ofString (toString i)).length:=strLen_append ..;have h2:=int_text_length_le (a:=i) (k:=64) (by decide) hi;have h3:(Str.ofString (toString i)).length=(toString i).length:=PySem.ofString_length _;exact ⟨by rw [show (out++(toString i:Str)).length=_ from hl,h3];omega,hr _ pins _ σ H1 Q (by rw [show (out++(toString i:Str)).length=_ from hl,h3];omega) (I1.tok _) h1⟩
theorem JD {v₁ v₂:Expr} (h:PJ X (v₁ :: v₂ :: es) t) (hz:1000 * (es.length+2)+1≤sizeLine:=by decide):PE X (.JoinedStr (v₁ :: v₂ :: es) pos) (YY t):=by
 intro pins s σ H Q I hw;exact JoinedStr_many (h Str.empty pins s σ H Q (by show 0+1000 * (es.length+1+1)+1≤sizeLine;omega) I hw)
end
end L2
namespace L2
open PySem PySem.W PySem.Spec PyProof.Rows PySem.Calls
section
variable {prog:Program} {w:World} {A:Around} {E:Value→Shared→Prop} {h:Heap} {g:Array GenState} {d:Drawn} {t:Nat} {os:OsState} {a C:Addr} {o:Obj} {K:Frag}
 {nm q:Str} {N:Addr} {bs bm:List Value} {hdct:Bool} {sn:List Str} {sub:List Value} {ab:Bool} {col:Option Bool} {dd:Option Addr} {k0 k1 k2 k3 k5:Option Value} {newId:String}
end
structure U6 (K:Frag) (x:Str) (C:Addr):Prop extends ExcCls K x C where
 e1:findIn K (.ref C) "__getattribute__"=some (some (.builtin "BaseException.__getattribute__"))
 e2:findIn K (.ref C) "__getattr__"=some none
 e3:findIn K (.ref C) "__class__"=some (some (.builtin "object.__class__"))
 e4:(clsIn K C).isSome=true
end L2
namespace L2
open PySem PySem.Spec PyProof.Rows
section
variable {X:Cx} {CX:CXT} {k:Nat} {f C:Addr} {fd:FuncData} {ps:List Str} {sp:Sp} {dvs:List V} {ds:List Value} {E:XK} {x m:Str} {p pos apos:Pos} {e o:Expr} {es:List Expr} {ta:TE} {t:TA}
end
section
variable {P:Program} {w:World} {K:PySem.W.Frag} {mg:Str→Option Value} {base:Heap}
end
end L2
namespace L2
open PySem PySem.Spec PyProof.Rows
theorem zk:∀ {cs:List Addr} {us:List Value},jw (cs.map V.ref) us→us=cs.map Value.ref
 | [],_,r=>by cases r;rfl
 | c :: cs,_,r=>by
  cases r with
  | cons r rr=>cases r;rw [zk rr];rfl
section
variable {X:Cx} (K:PySem.W.Frag)
end
section
variable {X:Cx} {pins pins1:List (Addr×Obj)} {σ:St} {H:Hp} {s:Shared} {xe:Value→Shared→Prop} {ea:Addr}
end
end L2
namespace L2
open PySem PySem.Spec PyProof.Rows
section
variable {X:Cx}
end
theorem zW {P:Program} {w:World} {X:Cx}:zU (CXr P w) X E0:=fun _ _ _ _ _ _ _ h=>by
 obtain ⟨_,_,_,_,_,_,_,_,_,_,_,_,_,z⟩:=h;exact z.elim
section
variable {K:PySem.W.Frag} {C C':Addr} {b:Bool}
end
section
variable {E:XK} {C:Addr} {ta:TA} {D:Ends} {σ:St} {H:Hp} {Q:VK} {te:TE} {t:St→Hp→(Hp→Prop)→Prop} {R:Hp→Prop} {n i:Nat} {tb:XK→TS} {ts:TS}
theorem Vw (h:ta σ H fun vs H1=>vs.length≤sizeLine∧E (.ref C) none H1):Vc E C ta D σ H:=h
theorem VR (h:t σ H fun H'=>∀ x,Q (.str x) H'):YY t σ H Q:=h
theorem UX (h:t σ H R):j0L t σ H R:=h
theorem UQ (h:R H):wm σ H R:=h
theorem Uf (h:te σ H fun x H1=>∃ i:Int,x=.int i∧i.natAbs.log2 < 64∧t σ H1 R):WY te t σ H R:=h
end
theorem kU {i:Int} (h0:-1000000≤i) (h1:i≤1000000):i.natAbs.log2 < 64:=by
 by_cases hz:i.natAbs=0
 ·rw [hz];decide
 ·rw [Nat.log2_lt hz];have:i.natAbs≤1000000:=by omega
  omega
end L2
namespace L2
open PySem PySem.Spec PyProof.Rows
open PySem.AutoSeq1 (wpAny_loadPart')
open PySem.MeetsSeq PySem.MeetsSeq2 PySem.MeetsSeq3 PySem.SeqAt
def yE:List Int→List Int→Bool
 | [],_=>false
 | _ :: _,[]=>true
 | a :: r,b :: t=>if a=b then yE r t else decide (b < a)
section
variable {X:Cx} (K:PySem.W.Frag)
end
theorem Yx:∀ {xs:List V} {us:List Value},xs.length=us.length→(∀ (j:Nat) (u:Value),us[j]?=some u→∃ x,xs[j]?=some x∧jr x u)→jw xs us
 | [],[],_,_=>.nil
 | x :: xs,u :: us,hl,h=>by
  obtain ⟨y,e,r⟩:=h 0 u rfl;cases e;exact .cons r (Yx (by simpa using hl) fun j u e=>h (j+1) u e)
 | [],_ :: _,hl,_=>by simp at hl
 | _ :: _,[],hl,_=>by simp at hl
theorem j7.upd_fresh {H H':Hp} {b:Addr} {o:HO} (h:j7 H H') (hb:H b=Option.none):j7 H (upd H' b o):=fun c u e=>by
 rw [j5 (jA e hb)];exact h c u e
theorem yB.units1 {k:Nat} {A:Around} (r:yB k A):A.units+1 < cLine:=by have:=r.units;omega
section
variable {X:Cx}
end
section
variable {X:Cx} (K:PySem.W.Frag)
theorem vE (hK:X.K=K:=by rfl):SlR X (j0d K):=by subst hK;exact XE
end
section
variable {σ:St} {H:Hp} {Q:VK} {to td ty tv te:TE} {D:Ends} {trs:List (TE×TE)} {K:PySem.W.Frag} {T:String} {r:V→List V→Hp→VK→Prop}
theorem Ud (h:td σ H fun x H1=>ty σ H1 fun y H2=>∃ a v,x=.ref a∧ym H2 a y (some v)∧Q v H2):Xy td ty σ H Q:=h
theorem V8 (h:ty σ H fun y H1=>td σ H1 fun x H2=>∃ a o,x=.ref a∧ym H2 a y o∧Q (.bl (!o.isSome)) H2):YW ty td σ H Q:=h
theorem Ua (h:tv σ H fun v H1=>td σ H1 fun x H2=>ty σ H2 fun y H3=>∃ a H4,x=.ref a∧xE H3 a y v H4∧D.nx σ H4):KI td ty tv D σ H:=h
theorem j0p {r:V→Option Int→Option Int→Hp→VK→Prop} {tl th:TO} (h:te σ H fun x H1=>tl σ H1 fun l H2=>th σ H2 fun u H3=>r x l u H3 Q):tSl r te tl th σ H Q:=h
theorem VD {Q:Option Int→Hp→Prop} (h:Q none H):Yv σ H Q:=h
theorem Ul {Q:Option Int→Hp→Prop} (h:te σ H fun x H1=>∃ i,x=.int i∧Q (some i) H1):Kk te σ H Q:=h
end
end L2
namespace My
open PySem L2
def zu (a b:List Int):Bool:=if a.length≠b.length then decide (a.length > b.length) else yE a b
def slt (a b:List Int):Prop:=zu b a=true
theorem xr:∀ {a b:List Int} {x y:Int},a.length=b.length→yE a b=true→yE (a++[x]) (b++[y])=true
 | [],[],_,_,_,h=>by simp [yE] at h
 | a :: r,b :: t,x,y,hl,h=>by
  simp only [List.cons_append,yE] at h ⊢
  by_cases e:a=b
  ·rw [if_pos e] at h ⊢;exact xr (by simpa using hl) h
  ·rw [if_neg e] at h ⊢;exact h
 | [],_ :: _,_,_,hl,_=>by simp at hl
 | _ :: _,[],_,_,hl,_=>by simp at hl
theorem xW:∀ {a:List Int} {x y:Int},y < x→yE (a++[x]) (a++[y])=true
 | [],x,y,h=>by simp only [List.nil_append,yE];rw [if_neg (by omega)];simpa using h
 | a :: r,x,y,h=>by rw [List.cons_append,List.cons_append];unfold yE;rw [if_pos rfl];exact xW h
theorem vL:∀ a:List Int,yE a a=false
 | []=>rfl
 | a :: r=>by unfold yE;rw [if_pos rfl];exact vL r
theorem Jx (a:List Int):zu a a=false:=by unfold zu;rw [if_neg (by simp)];exact vL a
theorem JQ (u:List Int) (x:Int):slt [] (u++[x]):=by
 unfold slt zu;rw [if_pos (by simp)];simp
theorem zK {u v:List Int} (h:slt u v) (x y:Int):slt (u++[x]) (v++[y]):=by
 unfold slt zu at h ⊢
 by_cases e:v.length=u.length
 ·rw [if_neg (by simp [e])] at h;rw [if_neg (by simp [e])];exact xr e h
 ·rw [if_pos e] at h;rw [if_pos (by simp [e])];have:=of_decide_eq_true h;simp;omega
theorem zD (u:List Int) {x y:Int} (h:x < y):slt (u++[x]) (u++[y]):=by
 unfold slt zu;rw [if_neg (by simp)];exact xW h
abbrev Ent:=Int×List Int
structure BI (d:Int) (rss:List (List Int)) (at' j:Nat) (L:List Ent):Prop where
 head:L[0]?=some (0,[])
 ok:∀ e∈L,jD d e.2∧jF rss 0 e.2=e.1
 nd:(L.map Prod.fst).Nodup
 par:∀ (k:Nat) (e:Ent),L[k]?=some e→k=0∨∃ (p:Nat) (q:Ent) (x:Nat),p < k∧L[p]?=some q∧e.2=q.2++[(x:Int)]∧(p < at'∨(p=at'∧x < j))
 inc:∀ (i k:Nat) (e f:Ent),i < k→L[i]?=some e→L[k]?=some f→slt e.2 f.2
 cov:∀ (p:Nat) (q:Ent) (x:Nat),L[p]?=some q→(x:Int) < d→(p < at'∨(p=at'∧x < j))→∃ e∈L,e.1=jF rss 0 (q.2++[(x:Int)])∧(e.2=q.2++[(x:Int)]∨slt e.2 (q.2++[(x:Int)]))
def zL (L:List Ent) (r:Int):Bool:=L.any fun e=>decide (e.1=r)
theorem xi {L:List Ent} {r:Int}:zL L r=true↔∃ e∈L,e.1=r:=by simp [zL]
def yC (L:List Ent) (w:List Int) (j:Nat) (r:Int):List Ent:=if zL L r=true then L else L++[(r,w++[(j:Int)])]
theorem BI.start (d:Int) (rss:List (List Int)):BI d rss 0 0 [(0,[])] where
 head:=rfl
 ok:=fun e he=>by rw [List.mem_singleton.mp he];exact ⟨(fun x hx=>by cases hx),rfl⟩
 nd:=by simp
 par:=fun k e h=>by
  cases k with
  | zero=>exact .inl rfl
  | succ k=>simp at h
 inc:=fun i k e f hik hi hk=>by
  cases k with
  | zero=>omega
  | succ k=>simp at hk
 cov:=fun p q x _ _ h=>by omega
theorem BI.new {d:Int} {rss:List (List Int)} {at' j:Nat} {L:List Ent} (B:BI d rss at' j L) {q:Ent} (hq:L[at']?=some q):∀ e∈L,slt e.2 (q.2++[(j:Int)]):=fun e he=>by
 obtain ⟨k,hk⟩:=List.getElem?_of_mem he;rcases B.par k e hk with rfl | ⟨p,q',x,hp,hq',hw,hx⟩
 ·rw [B.head] at hk;cases hk;exact JQ _ _
 ·rw [hw];rcases hx with hx | ⟨rfl,hx⟩
  ·exact zK (B.inc p at' q' q hx hq' hq) _ _
  ·rw [hq] at hq';cases hq';exact zD _ (by omega)
theorem BI.add {d:Int} {rss:List (List Int)} {at' j:Nat} {L:List Ent} (B:BI d rss at' j L) {q:Ent} (hq:L[at']?=some q) (hj:(j:Int) < d) {r:Int} (hr:r=step rss q.1 j):BI d rss at' (j+1) (yC L q.2 j r):=by
 have hqw:=B.ok q (List.mem_of_getElem? hq);have hrw:jF rss 0 (q.2++[(j:Int)])=r:=by rw [qO,hqw.2,hr]
 unfold yC
 by_cases hk:zL L r=true
 ·rw [if_pos hk];refine ⟨B.head,B.ok,B.nd,fun k e h=>?_,B.inc,fun p q' x h1 h2 h3=>?_⟩
  ·rcases B.par k e h with h | ⟨p,q',x,a1,a2,a3,a4⟩
   ·exact .inl h
   ·exact .inr ⟨p,q',x,a1,a2,a3,by omega⟩
  ·by_cases hn:p < at'∨(p=at'∧x < j)
   ·exact B.cov p q' x h1 h2 hn
   ·have e1:p=at':=by omega
    have e2:x=j:=by omega
    subst e1 e2;rw [hq] at h1;cases h1;obtain ⟨e,he,hee⟩:=xi.mp hk;exact ⟨e,he,by rw [hrw];exact hee,.inr (B.new hq e he)⟩
 ·rw [if_neg hk];have hnk:∀ e∈L,e.1≠r:=fun e he z=>hk (xi.mpr ⟨e,he,z⟩);have h0:0 < L.length:=(List.getElem?_eq_some_iff.mp B.head).1;have get_old:∀ {k:Nat} {e:Ent},L[k]?=some e→(L++[(r,q.2++[(j:Int)])])[k]?=some e:=fun {k e} h=>by
   rw [List.getElem?_append_left (List.getElem?_eq_some_iff.mp h).1];exact h
  have get_inv:∀ {k:Nat} {e:Ent},(L++[(r,q.2++[(j:Int)])])[k]?=some e→(k < L.length∧L[k]?=some e)∨(k=L.length∧e=(r,q.2++[(j:Int)])):=fun {k e} h=>by
   rcases Nat.lt_or_ge k L.length with hl | hl
   ·rw [List.getElem?_append_left hl] at h;exact .inl ⟨hl,h⟩
   ·rw [List.getElem?_append_right hl] at h;have hz:k - L.length=0:=by
     have:=(List.getElem?_eq_some_iff.mp h).1;simp at this;omega
    rw [hz] at h;simp at h;exact .inr ⟨by omega,h.symm⟩
  refine ⟨get_old B.head,fun e he=>?_,?_,fun k e h=>?_,fun i k e f hik hi hk=>?_,fun p q' x h1 h2 h3=>?_⟩
  ·rcases List.mem_append.mp he with he | he
   ·exact B.ok e he
   ·rw [List.mem_singleton.mp he];refine ⟨fun x hx=>?_,hrw⟩;rcases List.mem_append.mp hx with hx | hx
    ·exact hqw.1 x hx
    ·rw [List.mem_singleton.mp hx];omega
  ·rw [List.map_append,List.map_singleton];refine List.nodup_append.mpr ⟨B.nd,by simp,fun a ha b hb=>?_⟩;rw [List.mem_singleton.mp hb];obtain ⟨e,he,rfl⟩:=List.mem_map.mp ha;exact hnk e he
  ·rcases get_inv h with ⟨hl,h⟩ | ⟨hl,rfl⟩
   ·rcases B.par k e h with h | ⟨p,q',x,a1,a2,a3,a4⟩
    ·exact .inl h
    ·exact .inr ⟨p,q',x,a1,get_old a2,a3,by omega⟩
   ·exact .inr ⟨at',q,j,by rw [hl];exact (List.getElem?_eq_some_iff.mp hq).1,get_old hq,rfl,by omega⟩
  ·rcases get_inv hk with ⟨hl,hk⟩ | ⟨hl,rfl⟩
   ·rcases get_inv hi with ⟨_,hi⟩ | ⟨hl',_⟩
    ·exact B.inc i k e f hik hi hk
    ·omega
   ·rcases get_inv hi with ⟨_,hi⟩ | ⟨hl',_⟩
    ·exact B.new hq e (List.mem_of_getElem? hi)
    ·omega
  ·rcases get_inv h1 with ⟨_,h4⟩ | ⟨hl,_⟩
   ·clear h1;have h1:=h4
    by_cases hn:p < at'∨(p=at'∧x < j)
    ·obtain ⟨e,he,e1,e2⟩:=B.cov p q' x h1 h2 hn;exact ⟨e,List.mem_append_left _ he,e1,e2⟩
    ·have e1:p=at':=by omega
     have e2:x=j:=by omega
     subst e1 e2;rw [hq] at h1;cases h1;exact ⟨(r,q.2++[(x:Int)]),by simp,hrw.symm,.inl rfl⟩
   ·have:=(List.getElem?_eq_some_iff.mp hq).1;omega
theorem BI.next {d:Int} {rss:List (List Int)} {at':Nat} {L:List Ent} (B:BI d rss at' d.toNat L):BI d rss (at'+1) 0 L :=
 ⟨B.head,B.ok,B.nd,fun k e h=>by
  rcases B.par k e h with h | ⟨p,q',x,a1,a2,a3,a4⟩
  ·exact .inl h
  ·exact .inr ⟨p,q',x,a1,a2,a3,by omega⟩,B.inc,fun p q x h1 h2 h3=>B.cov p q x h1 h2 (by omega)⟩
theorem vJ:∀ (n:Nat) (l:List Nat),l.Nodup→(∀ x∈l,x < n)→l.length≤n
 | 0,l,_,h=>by
  cases l with
  | nil=>simp
  | cons a r=>exact absurd (h a List.mem_cons_self) (Nat.not_lt_zero _)
 | n+1,l,hn,h=>by
  by_cases hm:n∈l
  ·have h1:=vJ n (l.erase n) (hn.erase n) fun x hx=>by
    have h2:=(hn.mem_erase_iff.mp hx);have:=h x h2.2;have:=h2.1;omega
   rw [List.length_erase_of_mem hm] at h1;omega
  ·have:=vJ n l hn fun x hx=>by
    have h1:=h x hx;have h2:x≠n:=fun z=>hm (z ▸ hx);omega
   omega
theorem BI.keys {d:Int} {rss:List (List Int)} {at' j:Nat} {L:List Ent} (B:BI d rss at' j L) (W:Ways d rss) (h0:0 < rss.length):∀ e∈L,0≤e.1∧e.1 < rss.length:=fun e he=>by
 obtain ⟨h1,h2⟩:=B.ok e he;rw [← h2];exact q0 W h1 (by omega) (by omega)
theorem BI.len {d:Int} {rss:List (List Int)} {at' j:Nat} {L:List Ent} (B:BI d rss at' j L) (W:Ways d rss) (h0:0 < rss.length):L.length≤rss.length:=by
 have h:=vJ rss.length ((L.map Prod.fst).map Int.toNat) ?_ ?_
 ·simpa using h
 ·rw [List.nodup_iff_pairwise_ne,List.pairwise_map];refine (List.nodup_iff_pairwise_ne.mp B.nd).imp_of_mem fun {a b} ha hb hab=>?_;obtain ⟨e,he,rfl⟩:=List.mem_map.mp ha;obtain ⟨f,hf,rfl⟩:=List.mem_map.mp hb;have h1:=B.keys W h0 e he;have h2:=B.keys W h0 f hf;omega
 ·intro x hx;obtain ⟨y,hy,rfl⟩:=List.mem_map.mp hx;obtain ⟨e,he,rfl⟩:=List.mem_map.mp hy;have h1:=B.keys W h0 e he;omega
theorem BI.wlen {d:Int} {rss:List (List Int)} {at' j:Nat} {L:List Ent} (B:BI d rss at' j L):∀ (n k:Nat) (e:Ent),k≤n→L[k]?=some e→e.2.length≤k
 | 0,k,e,hk,h=>by
  have:k=0:=by omega
  subst this;rw [B.head] at h;cases h;exact Nat.le_refl _
 | n+1,k,e,hk,h=>by
  rcases B.par k e h with rfl | ⟨p,q,x,hp,hq,hw,_⟩
  ·rw [B.head] at h;cases h;exact Nat.le_refl _
  ·have:=B.wlen n p q (by omega) hq;rw [hw,List.length_append,List.length_singleton];omega
def rowK (L:List Ent) (w:List Int) (row:List Int):Nat→List Ent
 | 0=>L
 | j+1=>yC (rowK L w row j) w j (row.getD j 0)
def vz (rss:List (List Int)) (L:List Ent) (k:Nat):List Ent:=match L[k]? with
 | none=>L
 | some e=>rowK L e.2 (rss.getD e.1.toNat []) (rss.getD e.1.toNat []).length
def qq (rss:List (List Int)):Nat→List Ent
 | 0=>[(0,[])]
 | k+1=>vz rss (qq rss k) k
def bfs (rss:List (List Int)):List Ent:=qq rss rss.length
theorem QZ {L:List Ent} {w:List Int} {j:Nat} {r:Int} {k:Nat} {e:Ent} (h:L[k]?=some e):(yC L w j r)[k]?=some e:=by
 unfold yC
 split
 ·exact h
 ·rw [List.getElem?_append_left (List.getElem?_eq_some_iff.mp h).1];exact h
theorem xt {L:List Ent} {w row:List Int} {k:Nat} {e:Ent} (h:L[k]?=some e):∀ j,(rowK L w row j)[k]?=some e
 | 0=>h
 | j+1=>QZ (xt h j)
theorem BI.rowK {d:Int} {rss:List (List Int)} {at':Nat} {L:List Ent} (B:BI d rss at' 0 L) (W:Ways d rss) (h0:0 < rss.length) {q:Ent} (hq:L[at']?=some q):∀ {j:Nat},(j:Int)≤d→BI d rss at' j (My.rowK L q.2 (rss.getD q.1.toNat []) j)
 | 0,_=>B
 | j+1,h=>(BI.rowK B W h0 hq (by omega)).add (xt hq j) (by omega) rfl
theorem Vf {d:Int} {rss:List (List Int)} (W:Ways d rss) {r:Int} (h0:0≤r) (h1:r < rss.length):((rss.getD r.toNat []).length:Int)=d:=by
 have hq:r.toNat < rss.length:=by omega
 rw [List.getD_eq_getElem?_getD,List.getElem?_eq_getElem hq,Option.getD_some];exact (W.row _ (List.getElem_mem hq)).1
theorem vU {d:Int} {rss:List (List Int)} (W:Ways d rss) (h0:0 < rss.length):∀ k,k≤(qq rss k).length→BI d rss k 0 (qq rss k)
 | 0,_=>BI.start d rss
 | k+1,h=>by
  unfold qq vz at h ⊢;cases e:(qq rss k)[k]? with
  | none =>
   rw [e] at h;have:=List.getElem?_eq_none_iff.mp e;dsimp only at h;omega
  | some q =>
   dsimp only;have hk:k < (qq rss k).length:=(List.getElem?_eq_some_iff.mp e).1;have B:=vU W h0 k (by omega);have hb:=B.keys W h0 q (List.mem_of_getElem? e);have hl:=Vf W hb.1 hb.2;have B2:=B.rowK W h0 e (j:=(rss.getD q.1.toNat []).length) (by omega);have e2:(rss.getD q.1.toNat []).length=d.toNat:=by omega
   rw [e2] at B2 ⊢;exact B2.next
theorem ve {rss:List (List Int)} {k:Nat} (h:(qq rss k).length≤k):∀ m,qq rss (k+m)=qq rss k
 | 0=>rfl
 | m+1=>by
  have ih:=ve h m;show vz rss (qq rss (k+m)) (k+m)=_;rw [ih];unfold vz;rw [List.getElem?_eq_none_iff.mpr (by omega)]
theorem Qw {d:Int} {rss:List (List Int)} (W:Ways d rss) (h0:0 < rss.length) {k:Nat} (h:k=(qq rss k).length):bfs rss=qq rss k:=by
 have B:=vU W h0 k (by omega);have:=B.len W h0;unfold bfs;have e:rss.length=k+(rss.length - k):=by omega
 rw [e];exact ve (by omega) _
theorem Z1 {rss:List (List Int)} {k:Nat}:(qq rss k).length≤(qq rss (k+1)).length:=by
 show _≤(vz rss (qq rss k) k).length;unfold vz;have add:∀ (L:List Ent) w j r,L.length≤(yC L w j r).length:=fun L w j r=>by
  unfold yC;split
  ·exact Nat.le_refl _
  ·simp
 have row:∀ (L:List Ent) w row j,L.length≤(rowK L w row j).length:=fun L w row j=>by
  induction j with
  | zero=>exact Nat.le_refl _
  | succ j ih=>exact Nat.le_trans ih (add _ _ _ _)
 split
 ·exact Nat.le_refl _
 ·exact row _ _ _ _
theorem Jr {d:Int} {rss:List (List Int)} (W:Ways d rss) (h0:0 < rss.length):BI d rss (bfs rss).length 0 (bfs rss):=by
 have key:∀ k,(k≤(qq rss k).length)∨∃ m,m≤k∧m=(qq rss m).length:=fun k=>by
  induction k with
  | zero=>left;exact Nat.zero_le _
  | succ k ih =>
   rcases ih with ih | ⟨m,hm,e⟩
   ·rcases Nat.lt_or_ge k (qq rss k).length with h | h
    ·left;have:=Z1 (rss:=rss) (k:=k);omega
    ·right;exact ⟨k,by omega,by omega⟩
   ·right;exact ⟨m,by omega,e⟩
 rcases key rss.length with h | ⟨m,hm,e⟩
 ·have B:=vU W h0 _ h;have:=B.len W h0;have e:rss.length=(qq rss rss.length).length:=by omega
  have e2:=Qw W h0 e;have e3:(bfs rss).length=rss.length:=by rw [e2];omega
  rw [e3,e2];exact B
 ·have e2:=Qw W h0 e;rw [e2,← e];exact vU W h0 m (by omega)
end My
namespace L2
open PySem PySem.Spec PyProof.Rows
section
variable {X:Cx} {pins:List (Addr×Obj)} {σ:St} {H:Hp} {s:Shared} {scope:Scope} {cl:List (Str×Addr)} {C:Addr} {N':List Str} {ex:List Addr} {caps:List (Option Nat)}
end
section
variable {X:Cx} {scope:Scope} {N':List Str} {caps:List (Option Nat)} {elt iter tg:Expr} {pos:Pos} {wi:TI} {g:TG} {te:TE}
end
end L2
namespace L2
open PySem PySem.Spec PyProof.Rows
structure Vr (X:Cx) (b:List Stmt) (t:TS):Prop where
 out:PSs X b t
theorem exO {X:Cx} {b:List Stmt} {t:TS} {R:TS→Prop} (h:Vr X b t) (r:R t):∃ t,PSs X b t∧R t:=⟨t,h.out,r⟩
theorem YO {X:Cx} {i:Nat} {x:Str} {k v:Expr} {pos pos' spos:Pos} {tk tv:TE} {rest:List Stmt} {u:TS} (hN:X.N.Nodup) (hi:X.N[i]?=some x) (hx:Loc X.env.scope x) (hk:PE X k tk) (hv:PE X v tv) (h2:PSs X rest u)
  (hf:X.fn x=true∨X.env.scope.names.lookup x=some .local:=by first | exact .inl rfl | exact .inr rfl | assumption)
  (hsw:swapsWith (.Dict [some k] [v] pos) (some (.Name x pos')) spos.line X.env=pure false:=by rfl) :
  Vr X (.Assign [.Name x pos'] (.Dict [some k] [v] pos) spos :: rest) (VC (YQ (KM [(tk,tv)]) (zw i)) u) :=
 ⟨j3 (jH hN hi hx (X5 (VB hk hv Xk) rfl rfl (by simp) (show 1≤15 by decide))) h2⟩
end L2
namespace My
open PySem L2
theorem x8:∀ {a b c:List Int},yE a b=true→yE b c=true→yE a c=true
 | [],_,_,h,_=>by simp [yE] at h
 | _ :: _,[],_,_,h=>by simp [yE] at h
 | _ :: _,_ :: _,[],_,_=>rfl
 | a :: r,b :: t,c :: u,h1,h2=>by
  unfold yE at h1 h2 ⊢
  by_cases e1:a=b
  ·rw [if_pos e1] at h1
   by_cases e2:b=c
   ·rw [if_pos e2] at h2;rw [if_pos (e1.trans e2)];exact x8 h1 h2
   ·rw [if_neg e2] at h2;rw [if_neg (by rw [e1];exact e2),e1];exact h2
  ·rw [if_neg e1] at h1;have h1:=of_decide_eq_true h1
   by_cases e2:b=c
   ·rw [← e2,if_neg e1];exact decide_eq_true h1
   ·rw [if_neg e2] at h2;have h2:=of_decide_eq_true h2;rw [if_neg (by omega)];exact decide_eq_true (by omega)
theorem vy:∀ {a b:List Int},a.length=b.length→a=b∨yE a b=true∨yE b a=true
 | [],[],_=>.inl rfl
 | [],_ :: _,h=>by simp at h
 | _ :: _,[],h=>by simp at h
 | a :: r,b :: t,h=>by
  unfold yE
  by_cases e:a=b
  ·rw [if_pos e,if_pos e.symm];rcases vy (a:=r) (b:=t) (by simpa using h) with h | h | h
   ·exact .inl (by rw [e,h])
   ·exact .inr (.inl h)
   ·exact .inr (.inr h)
  ·rw [if_neg e,if_neg (Ne.symm e)];rcases Int.lt_or_gt_of_ne e with h | h
   ·exact .inr (.inr (decide_eq_true h))
   ·exact .inr (.inl (decide_eq_true h))
theorem qy {a b c:List Int} (h1:slt a b) (h2:slt b c):slt a c:=by
 unfold slt zu at h1 h2 ⊢
 by_cases e1:b.length=a.length
 ·rw [if_neg (by simp [e1])] at h1
  by_cases e2:c.length=b.length
  ·rw [if_neg (by simp [e2])] at h2;rw [if_neg (by simp [e1,e2])];exact x8 h2 h1
  ·rw [if_pos e2] at h2;rw [if_pos (by omega)];have:=of_decide_eq_true h2;exact decide_eq_true (by omega)
 ·rw [if_pos e1] at h1;have h1:=of_decide_eq_true h1
  by_cases e2:c.length=b.length
  ·rw [if_pos (by omega)];exact decide_eq_true (by omega)
  ·rw [if_pos e2] at h2;have h2:=of_decide_eq_true h2;rw [if_pos (by omega)];exact decide_eq_true (by omega)
theorem Z5 (a b:List Int):a=b∨slt a b∨slt b a:=by
 unfold slt zu
 by_cases e:a.length=b.length
 ·rw [if_neg (by simp [e]),if_neg (by simp [e])];rcases vy e with h | h | h
  ·exact .inl h
  ·exact .inr (.inr h)
  ·exact .inr (.inl h)
 ·rw [if_pos (Ne.symm e),if_pos e];rcases Nat.lt_or_gt_of_ne e with h | h
  ·exact .inr (.inl (decide_eq_true h))
  ·exact .inr (.inr (decide_eq_true h))
theorem zM (a:List Int):¬ slt a a:=by unfold slt;rw [Jx];decide
theorem ku {a b:List Int} (h:slt a b):¬ slt b a:=fun h2=>zM a (qy h h2)
theorem xy (u:List Int) (x:Int):slt u (u++[x]):=by
 unfold slt zu;rw [if_pos (by simp)];exact decide_eq_true (by simp)
def sle (a b:List Int):Prop:=a=b∨slt a b
theorem xG {a b c:List Int} (h1:sle a b) (h2:slt b c):slt a c:=by
 rcases h1 with rfl | h1
 ·exact h2
 ·exact qy h1 h2
theorem ye {a b c:List Int} (h1:sle a b) (h2:sle b c):sle a c:=by
 rcases h2 with rfl | h2
 ·exact h1
 ·exact .inr (xG h1 h2)
theorem xu {a b:List Int} (h:sle a b) (x:Int):sle (a++[x]) (b++[x]):=by
 rcases h with rfl | h
 ·exact .inl rfl
 ·exact .inr (zK h x x)
section
variable {κ:Type} [DecidableEq κ]
def jm (st:κ→Int→κ) (k0:κ) (w:List Int):κ:=w.foldl st k0
theorem yk (st:κ→Int→κ) (k0:κ) (w:List Int) (x:Int):jm st k0 (w++[x])=st (jm st k0 w) x:=by
 unfold jm;rw [List.foldl_append];rfl
structure BIG (st:κ→Int→κ) (k0:κ) (d:Int) (at' j:Nat) (L:List (κ×List Int)):Prop where
 head:L[0]?=some (k0,[])
 ok:∀ e∈L,jD d e.2∧jm st k0 e.2=e.1
 nd:(L.map Prod.fst).Nodup
 par:∀ (k:Nat) (e:(κ×List Int)),L[k]?=some e→k=0∨∃ (p:Nat) (q:(κ×List Int)) (x:Nat),p < k∧L[p]?=some q∧e.2=q.2++[(x:Int)]∧(p < at'∨(p=at'∧x < j))
 inc:∀ (i k:Nat) (e f:(κ×List Int)),i < k→L[i]?=some e→L[k]?=some f→slt e.2 f.2
 cov:∀ (p:Nat) (q:(κ×List Int)) (x:Nat),L[p]?=some q→(x:Int) < d→(p < at'∨(p=at'∧x < j))→∃ e∈L,e.1=jm st k0 (q.2++[(x:Int)])∧(e.2=q.2++[(x:Int)]∨slt e.2 (q.2++[(x:Int)]))
def qt (L:List (κ×List Int)) (r:κ):Bool:=L.any fun e=>decide (e.1=r)
theorem x4 {L:List (κ×List Int)} {r:κ}:qt L r=true↔∃ e∈L,e.1=r:=by simp [qt]
def yl (L:List (κ×List Int)) (w:List Int) (j:Nat) (r:κ):List (κ×List Int):=if qt L r=true then L else L++[(r,w++[(j:Int)])]
theorem BIG.start (st:κ→Int→κ) (k0:κ) (d:Int):BIG st k0 d 0 0 [(k0,[])] where
 head:=rfl
 ok:=fun e he=>by rw [List.mem_singleton.mp he];exact ⟨(fun x hx=>by cases hx),rfl⟩
 nd:=by simp
 par:=fun k e h=>by
  cases k with
  | zero=>exact .inl rfl
  | succ k=>simp at h
 inc:=fun i k e f hik hi hk=>by
  cases k with
  | zero=>omega
  | succ k=>simp at hk
 cov:=fun p q x _ _ h=>by omega
theorem BIG.new {st:κ→Int→κ} {k0:κ} {d:Int} {at' j:Nat} {L:List (κ×List Int)} (B:BIG st k0 d at' j L) {q:(κ×List Int)} (hq:L[at']?=some q):∀ e∈L,slt e.2 (q.2++[(j:Int)]):=fun e he=>by
 obtain ⟨k,hk⟩:=List.getElem?_of_mem he;rcases B.par k e hk with rfl | ⟨p,q',x,hp,hq',hw,hx⟩
 ·rw [B.head] at hk;cases hk;exact JQ _ _
 ·rw [hw];rcases hx with hx | ⟨rfl,hx⟩
  ·exact zK (B.inc p at' q' q hx hq' hq) _ _
  ·rw [hq] at hq';cases hq';exact zD _ (by omega)
theorem BIG.add {st:κ→Int→κ} {k0:κ} {d:Int} {at' j:Nat} {L:List (κ×List Int)} (B:BIG st k0 d at' j L) {q:(κ×List Int)} (hq:L[at']?=some q) (hj:(j:Int) < d) {r:κ} (hr:r=st q.1 j):BIG st k0 d at' (j+1) (yl L q.2 j r):=by
 have hqw:=B.ok q (List.mem_of_getElem? hq);have hrw:jm st k0 (q.2++[(j:Int)])=r:=by rw [yk,hqw.2,hr]
 unfold yl
 by_cases hk:qt L r=true
 ·rw [if_pos hk];refine ⟨B.head,B.ok,B.nd,fun k e h=>?_,B.inc,fun p q' x h1 h2 h3=>?_⟩
  ·rcases B.par k e h with h | ⟨p,q',x,a1,a2,a3,a4⟩
   ·exact .inl h
   ·exact .inr ⟨p,q',x,a1,a2,a3,by omega⟩
  ·by_cases hn:p < at'∨(p=at'∧x < j)
   ·exact B.cov p q' x h1 h2 hn
   ·have e1:p=at':=by omega
    have e2:x=j:=by omega
    subst e1 e2;rw [hq] at h1;cases h1;obtain ⟨e,he,hee⟩:=x4.mp hk;exact ⟨e,he,by rw [hrw];exact hee,.inr (B.new hq e he)⟩
 ·rw [if_neg hk];have hnk:∀ e∈L,e.1≠r:=fun e he z=>hk (x4.mpr ⟨e,he,z⟩);have h0:0 < L.length:=(List.getElem?_eq_some_iff.mp B.head).1;have get_old:∀ {k:Nat} {e:(κ×List Int)},L[k]?=some e→(L++[(r,q.2++[(j:Int)])])[k]?=some e:=fun {k e} h=>by
   rw [List.getElem?_append_left (List.getElem?_eq_some_iff.mp h).1];exact h
  have get_inv:∀ {k:Nat} {e:(κ×List Int)},(L++[(r,q.2++[(j:Int)])])[k]?=some e→(k < L.length∧L[k]?=some e)∨(k=L.length∧e=(r,q.2++[(j:Int)])):=fun {k e} h=>by
   rcases Nat.lt_or_ge k L.length with hl | hl
   ·rw [List.getElem?_append_left hl] at h;exact .inl ⟨hl,h⟩
   ·rw [List.getElem?_append_right hl] at h;have hz:k - L.length=0:=by
     have:=(List.getElem?_eq_some_iff.mp h).1;simp at this;omega
    rw [hz] at h;simp at h;exact .inr ⟨by omega,h.symm⟩
  refine ⟨get_old B.head,fun e he=>?_,?_,fun k e h=>?_,fun i k e f hik hi hk=>?_,fun p q' x h1 h2 h3=>?_⟩
  ·rcases List.mem_append.mp he with he | he
   ·exact B.ok e he
   ·rw [List.mem_singleton.mp he];refine ⟨fun x hx=>?_,hrw⟩;rcases List.mem_append.mp hx with hx | hx
    ·exact hqw.1 x hx
    ·rw [List.mem_singleton.mp hx];omega
  ·rw [List.map_append,List.map_singleton];refine List.nodup_append.mpr ⟨B.nd,by simp,fun a ha b hb=>?_⟩;rw [List.mem_singleton.mp hb];obtain ⟨e,he,rfl⟩:=List.mem_map.mp ha;exact hnk e he
  ·rcases get_inv h with ⟨hl,h⟩ | ⟨hl,rfl⟩
   ·rcases B.par k e h with h | ⟨p,q',x,a1,a2,a3,a4⟩
    ·exact .inl h
    ·exact .inr ⟨p,q',x,a1,get_old a2,a3,by omega⟩
   ·exact .inr ⟨at',q,j,by rw [hl];exact (List.getElem?_eq_some_iff.mp hq).1,get_old hq,rfl,by omega⟩
  ·rcases get_inv hk with ⟨hl,hk⟩ | ⟨hl,rfl⟩
   ·rcases get_inv hi with ⟨_,hi⟩ | ⟨hl',_⟩
    ·exact B.inc i k e f hik hi hk
    ·omega
   ·rcases get_inv hi with ⟨_,hi⟩ | ⟨hl',_⟩
    ·exact B.new hq e (List.mem_of_getElem? hi)
    ·omega
  ·rcases get_inv h1 with ⟨_,h4⟩ | ⟨hl,_⟩
   ·clear h1;have h1:=h4
    by_cases hn:p < at'∨(p=at'∧x < j)
    ·obtain ⟨e,he,e1,e2⟩:=B.cov p q' x h1 h2 hn;exact ⟨e,List.mem_append_left _ he,e1,e2⟩
    ·have e1:p=at':=by omega
     have e2:x=j:=by omega
     subst e1 e2;rw [hq] at h1;cases h1;exact ⟨(r,q.2++[(x:Int)]),by simp,hrw.symm,.inl rfl⟩
   ·have:=(List.getElem?_eq_some_iff.mp hq).1;omega
theorem BIG.next {st:κ→Int→κ} {k0:κ} {d:Int} {at':Nat} {L:List (κ×List Int)} (B:BIG st k0 d at' d.toNat L):BIG st k0 d (at'+1) 0 L :=
 ⟨B.head,B.ok,B.nd,fun k e h=>by
  rcases B.par k e h with h | ⟨p,q',x,a1,a2,a3,a4⟩
  ·exact .inl h
  ·exact .inr ⟨p,q',x,a1,a2,a3,by omega⟩,B.inc,fun p q x h1 h2 h3=>B.cov p q x h1 h2 (by omega)⟩
theorem BIG.wlen {st:κ→Int→κ} {k0:κ} {d:Int} {at' j:Nat} {L:List (κ×List Int)} (B:BIG st k0 d at' j L):∀ (n k:Nat) (e:(κ×List Int)),k≤n→L[k]?=some e→e.2.length≤k
 | 0,k,e,hk,h=>by
  have:k=0:=by omega
  subst this;rw [B.head] at h;cases h;exact Nat.le_refl _
 | n+1,k,e,hk,h=>by
  rcases B.par k e h with rfl | ⟨p,q,x,hp,hq,hw,_⟩
  ·rw [B.head] at h;cases h;exact Nat.le_refl _
  ·have:=B.wlen n p q (by omega) hq;rw [hw,List.length_append,List.length_singleton];omega
theorem BIG.below {st:κ→Int→κ} {k0:κ} {d:Int} {at' j:Nat} {L:List (κ×List Int)} (B:BIG st k0 d at' j L) (e:κ×List Int) (he:L[at']?=some e) :
  ∀ (n:Nat) (w:List Int),w.length≤n→jD d w→slt w e.2→∃ (i:Nat) (f:κ×List Int),i < at'∧L[i]?=some f∧f.1=jm st k0 w∧sle f.2 w:=by
 have ahead:∀ {f:κ×List Int},f∈L→slt f.2 e.2→∃ i,i < at'∧L[i]?=some f:=fun {f} hf hs=>by
  obtain ⟨i,hi⟩:=List.getElem?_of_mem hf;rcases Nat.lt_or_ge i at' with h | h
  ·exact ⟨i,h,hi⟩
  ·rcases Nat.eq_or_lt_of_le h with h | h
   ·subst h;rw [he] at hi;cases hi;exact absurd hs (zM _)
   ·exact absurd hs (ku (B.inc at' i e f h he hi))
 have base:slt [] e.2→∃ (i:Nat) (f:κ×List Int),i < at'∧L[i]?=some f∧f.1=jm st k0 []∧sle f.2 []:=fun hs=>by
  obtain ⟨i,hi,hL⟩:=ahead (List.mem_of_getElem? B.head) hs;exact ⟨i,_,hi,hL,rfl,.inl rfl⟩
 intro n
 induction n with
 | zero =>
  intro w hw ok hs;have:w=[]:=List.length_eq_zero_iff.mp (by omega);subst this;exact base hs
 | succ n ih =>
  intro w hw ok hs
  by_cases hn:w=[]
  ·subst hn;exact base hs
  ·obtain ⟨u,x,rfl⟩:∃ u x,w=u++[x]:=⟨w.dropLast,w.getLast hn,(List.dropLast_concat_getLast hn).symm⟩;have oku:jD d u:=fun y hy=>ok y (List.mem_append_left _ hy);obtain ⟨x0,x1⟩:=ok x (by simp);obtain ⟨i,f,hi,hL,hk,hle⟩:=ih u (by simp at hw;omega) oku (qy (xy u x) hs);obtain ⟨g,hg,g1,g2⟩:=B.cov i f x.toNat hL (by omega) (.inl hi);rw [Int.toNat_of_nonneg x0] at g1 g2;have g2:sle g.2 (u++[x]):=ye g2 (xu hle x);obtain ⟨m,hm,hLm⟩:=ahead hg (xG g2 hs);refine ⟨m,g,hm,hLm,?_,g2⟩;rw [g1,yk,yk,(B.ok f (List.mem_of_getElem? hL)).2,hk]
theorem BIG.all {st:κ→Int→κ} {k0:κ} {d:Int} {L:List (κ×List Int)} (B:BIG st k0 d L.length 0 L):∀ (n:Nat) (w:List Int),w.length≤n→jD d w→∃ f∈L,f.1=jm st k0 w∧sle f.2 w:=by
 intro n
 induction n with
 | zero =>
  intro w hw ok;have:w=[]:=List.length_eq_zero_iff.mp (by omega);subst this;exact ⟨_,List.mem_of_getElem? B.head,rfl,.inl rfl⟩
 | succ n ih =>
  intro w hw ok
  by_cases hn:w=[]
  ·subst hn;exact ⟨_,List.mem_of_getElem? B.head,rfl,.inl rfl⟩
  ·obtain ⟨u,x,rfl⟩:∃ u x,w=u++[x]:=⟨w.dropLast,w.getLast hn,(List.dropLast_concat_getLast hn).symm⟩;have oku:jD d u:=fun y hy=>ok y (List.mem_append_left _ hy);obtain ⟨x0,x1⟩:=ok x (by simp);obtain ⟨f,hf,hk,hle⟩:=ih u (by simp at hw;omega) oku;obtain ⟨i,hi⟩:=List.getElem?_of_mem hf;obtain ⟨g,hg,g1,g2⟩:=B.cov i f x.toNat hi (by omega) (.inl (List.getElem?_eq_some_iff.mp hi).1);rw [Int.toNat_of_nonneg x0] at g1 g2;refine ⟨g,hg,?_,ye g2 (xu hle x)⟩;rw [g1,yk,yk,(B.ok f hf).2,hk]
end
end My
namespace L2
open PySem PySem.Spec PyProof.Rows
def Jq (tk tv:TE):TE:=fun σ H Q=>∀ p,H p=none→tk σ (upd H p (.dT [])) fun x H1=>tv σ H1 fun y H2=>∃ b ks,x=.ref b∧H2 b=some (.tup (ks.map kV))∧H2 p=some (.dT [])∧Q (.ref p) (upd H2 p (.dT [(ks,y)]))
theorem Z4 {X:Cx} {pos:Pos} {k v:Expr} {tk tv:TE} (hu:X.A.units+1 < cLine) (hk:PE X k tk) (hv:PE X v tv):PE X (.Dict [some k] [v] pos) (Jq tk tv):=by
 intro pins s σ H Q I q;rw [arm_eval_Dict,zip_pairTrees [some k] [v] X.env pos rfl rfl,dictDisplay_pairs _ (by simp [pairTrees]) (by simp [pairTrees])];have hn:=I.hok.fresh (Nat.le_refl s.heap.objs.size);have I1:=I.laid (a:=s.heap.objs.size) (o:=.dT []) (h':=s.heap.push { cls:=.type "dict",data:=.dict #[] }) (t':=s.toks) (fun _ _ q=>Heap.get?_push_of_some _ q) (Nat.le_refl _) (QY s.heap I.big);refine wpAny_bind (wpAny_standAt (wpAny_bind ?_));unfold subDict;refine wpAny_bind (wpAny_alloc ?_);refine wpAny_bind (wpAny_holding ?_);rw [if_pos (by simp [pairTrees])];refine wpAny_bind (evalPairs_cons (thn (hk pins _ σ _ _ I1 (q _ hn)) fun kv s1 ⟨x,H1,I2,rx,q1⟩=>?_));refine wpAny_bind (thn (hv pins s1 σ H1 _ I2 q1) fun vv s2 ⟨y,H2,I3,ry,b,ks,ex,hb,hp,q2⟩=>wpAny_bind (wpAny_standAt (wpAny_pure (evalPairs_nil ?_))));subst ex;cases (show kv=Value.ref b from rx);obtain ⟨z,hd,xs,rel,dd⟩:=VA I3.hok hp;cases rel;refine wpAny_holding (wpAny_bind ?_);rw [List.forIn_cons];refine wpAny_bind (wpAny_bind (wpAny_dictSet_heap (hsz:=Nat.zero_le _) ?room (vj I3.hok hb) dd fun h' dd' hs=>?fin))
 case fin =>
  refine wpAny_pure ?_;dsimp only;rw [List.forIn_nil];refine wpAny_pure (wpAny_pure (wpAny_pure (wpAny_pure ?_)));obtain ⟨q',es,ep,hq,h2,h3,h4,_,h5⟩:=dd';have hI:=vP (t':=s2.toks+(tupleKind (qU X.prog X.w)).draws ks) I3 (by rw [hp];exact True.intro) hs ⟨q',hq⟩ (ob:=.dT [(ks,y)]) ⟨(show 1≤sizeLine by decide),hd,[(ks,b,vv)],.cons ⟨rfl,by rw [j5 (vR hb hp (fun z=>nomatch z))];exact hb,ry⟩ .nil,q',es,ep,hq,h2,h3,h4,h5⟩;exact ⟨.ref s.heap.objs.size,_,hI,rfl,q2⟩
 case room=>exact (show X.A.units < cLine by omega)
theorem kl {X:Cx} {st:Stmt} {rest:List Stmt} {t u:TS} (h1:PS X st t) (h2:Vr X rest u):Vr X (st :: rest) (VC t u):=⟨j3 h1 h2.out⟩
theorem YL {X:Cx} {i:Nat} {x:Str} {k v:Expr} {pos pos' spos:Pos} {tk tv:TE} {rest:List Stmt} {u:TS} (hu:X.A.units+1 < cLine) (hN:X.N.Nodup) (hi:X.N[i]?=some x) (hx:Loc X.env.scope x) (hk:PE X k tk) (hv:PE X v tv) (h2:PSs X rest u)
  (hf:X.fn x=true∨X.env.scope.names.lookup x=some .local:=by first | exact .inl rfl | exact .inr rfl | assumption)
  (hsw:swapsWith (.Dict [some k] [v] pos) (some (.Name x pos')) spos.line X.env=pure false:=by rfl) :
  Vr X (.Assign [.Name x pos'] (.Dict [some k] [v] pos) spos :: rest) (VC (YQ (Jq tk tv) (zw i)) u) :=
 ⟨j3 (jH hN hi hx (Z4 hu hk hv)) h2⟩
section
variable {σ:St} {H:Hp} {Q:VK} {tk tv:TE}
theorem Xg (h:∀ p,H p=none→tk σ (upd H p (.dT [])) fun x H1=>tv σ H1 fun y H2=>∃ b ks,x=.ref b∧H2 b=some (.tup (ks.map kV))∧H2 p=some (.dT [])∧Q (.ref p) (upd H2 p (.dT [(ks,y)]))):Jq tk tv σ H Q:=h
end
end L2
namespace L2
open PySem PySem.Spec PyProof.Rows
def jBl (te:TE) (t:St→Hp→(Hp→Prop)→Prop):St→Hp→(Hp→Prop)→Prop:=fun σ H Q=>te σ H fun x H1=>∃ b:Bool,x=.bl b∧t σ H1 Q
theorem j07 {X:Cx} {e:Expr} {es:List Expr} {te:TE} {t:St→Hp→(Hp→Prop)→Prop} {pos:Pos} (he:PE X e te) (hr:PJ X es t):PJ X (.FormattedValue e (-1) none pos :: es) (jBl te t):=by
 intro out pins s σ H Q hz I h;refine joinParts_cons (FormattedValue_plain (thn (he pins s σ H _ I h) fun v s1 hh=>?_));obtain ⟨x,H1,I1,r,b,rfl,h1⟩:=hh;have hv:v=Value.bool b:=r;subst hv;rw [List.length_cons] at hz;refine wpAny_formatField_bool ?_;have h3:((if b then "True" else "False":Str)).length≤5:=by cases b <;> decide +kernel
 have hl:(out++(if b then "True" else "False":Str)).length=out.length+((if b then "True" else "False":Str)).length:=strLen_append ..;exact ⟨by rw [hl];omega,hr _ pins _ σ H1 Q (by rw [hl];omega) ((I1.tok _).tok _) h1⟩
theorem j0G {σ:St} {H:Hp} {te:TE} {t:St→Hp→(Hp→Prop)→Prop} {R:Hp→Prop} (h:te σ H fun x H1=>∃ b:Bool,x=.bl b∧t σ H1 R):jBl te t σ H R:=h
section
variable {X:Cx}
end
section
variable {prog:Program} {w:World} {A:Around} {E:Value→Shared→Prop} {s:Shared} {it d:Addr} {i ep:Nat} {es:Array DictEntry} {od:Obj} {c1 c2:Value}
end
section
variable {X:Cx}
end
section
variable {σ:St} {H:Hp} {Q:VK} {t td ty tl:TE} {P:Program} {w:World}
theorem XJ (h:td σ H fun x H1=>∃ a,x=.ref a∧IsD H1 a∧ty σ H1 fun y H2=>∃ o,ym H2 a y o∧Q (o.getD .non) H2):VT td ty σ H Q:=h
theorem Xi (h:∀ p,H p=none→Q (.ref p) (upd H p (.dT []))):Zi σ H Q:=h
end
section
variable {X:Cx} (K:PySem.W.Frag)
theorem Qb:zC X (.type "range") (fun xs H Q=>∃ n:Int,xs=[.int n]∧∀ p,H p=none→Q (.ref p) (upd H p (.rng 0 n))):=by
 intro pins s σ H xs us Q I r h;obtain ⟨n,rfl,q⟩:=h;obtain ⟨u,rfl,rx⟩:=xj r;obtain ⟨t,rfl⟩:=rx;refine call_range_1 ?_;refine ⟨.ref s.heap.objs.size,_,I.laid (t':=s.toks+1+1) (fun _ _ q=>Heap.get?_push_of_some _ q) (Nat.le_refl _) ?_,rfl,q _ I.fresh⟩;exact ⟨_,_,_,Heap.get?_push_size _ rfl⟩
theorem kR (hc:X.calm=true):zC X (.type "list") (fun xs H Q=>∃ p n,xs=[.ref p]∧H p=some (.rng 0 n)∧0≤n∧n≤100000∧∀ l,H l=none→Q (.ref l) (upd H l (.lst ((List.range n.toNat).map fun (i:Nat)=>V.int (i:Int))))):=by
 intro pins s σ H xs us Q I r h;obtain ⟨p,n,rfl,hp,h0,h1,q⟩:=h;obtain ⟨u,rfl,rx⟩:=xj r;cases rx;obtain ⟨t,u,v,hr⟩:=(show qM X.prog X.w H s.heap p (.rng 0 n) from I.hok p _ hp);refine call_list_range (n:=n.toNat) (I.ok.hd hc) hr (small_one (by decide) (by decide) (by omega) (by omega)) (by rw [rangeSize_one];split <;> omega) (by omega) fun h' tk acc c kp e hit=>?_;have hl:n.toNat≤sizeLine:=Nat.le_trans (show _≤100000 by omega) (by decide);refine ⟨.ref s.heap.objs.size,_,I.laid (t':=tk) kp (Nat.le_refl _) (show qM X.prog X.w _ h' _ (.lst ((List.range n.toNat).map fun (i:Nat)=>V.int (i:Int))) from ⟨by simpa using hl,acc.toList,c,Yx (by have:=hit.1;simp [Array.length_toList];omega) (fun j u hu=>?_),by simpa using e⟩),rfl,q _ I.fresh⟩;obtain ⟨hj,_⟩:=List.getElem?_eq_some_iff.mp hu;obtain ⟨tk',e'⟩:=hit.2 j u (by rw [← Array.getElem?_toList];exact hu);have hjn:j < n.toNat:=by rw [← hit.1];simpa using hj
 refine ⟨.int (j:Int),by rw [List.getElem?_map,List.getElem?_range hjn];rfl,tk',?_⟩;rw [e'];congr 1;omega
end
end L2
namespace My
abbrev Tri:=Int×Int×List Int
def ZJ (root:Nat→Nat) (n:Nat):Nat:=((List.range n).filter fun i=>decide (root i=i)).length
structure z8 (rss:List (List Int)) (a b d:Int) (Kp:List Tri) (root:Nat→Nat) (k j:Nat):Prop where
 ok:∀ e∈Kp,jD d e.2.2∧e.1=jF rss a e.2.2∧e.2.1=jF rss b e.2.2
 inc:Kp.Pairwise (fun e f=>slt e.2.2 f.2.2)
 ahead:∀ e∈Kp,∀ q,Kp[k]?=some q→slt e.2.2 (q.2.2++[(j:Int)])
 first:∀ f:Int→Nat,(∀ e∈Kp,sle e.2.2 []→f e.1=f e.2.1)→f a=f b
 done:∀ (m:Nat) e (c:Nat),Kp[m]?=some e→(c:Int) < d→(m < k∨(m=k∧c < j))→∀ f:Int→Nat,(∀ e'∈Kp,sle e'.2.2 (e.2.2++[(c:Int)])→f e'.1=f e'.2.1)→f (step rss e.1 c)=f (step rss e.2.1 c)
 sound:∀ f:Int→Nat,(∀ e∈Kp,f e.1=f e.2.1)→∀ u v:Nat,root u=root v→f (u:Int)=f (v:Int)
 count:Kp.length+ZJ root rss.length≤rss.length
 wl:∀ (m:Nat) e,Kp[m]?=some e→e.2.2.length≤m
def yb (root:Nat→Nat) (x y:Nat):Nat→Nat:=fun z=>if root z=root y then root x else root z
theorem QT {root:Nat→Nat} {n x y:Nat} (hy:root y < n) (ix:root (root x)=root x) (iy:root (root y)=root y) (hne:root x≠root y):ZJ (yb root x y) n+1≤ZJ root n:=by
 unfold ZJ;have key:∀ (l:List Nat),l.Nodup→root y∈l→(l.filter fun i=>decide (yb root x y i=i)).length+1≤(l.filter fun i=>decide (root i=i)).length:=by
  have sub:∀ i,yb root x y i=i→root i=i∧i≠root y:=fun i h=>by
   unfold yb at h
   split at h
   ·rename_i h1
    rw [← h,ix] at h1;exact absurd h1 hne
   ·rename_i h1
    exact ⟨h,fun z=>h1 (by rw [z,iy])⟩
  have le:∀ l:List Nat,(l.filter fun i=>decide (yb root x y i=i)).length≤(l.filter fun i=>decide (root i=i)).length:=by
   intro l
   induction l with
   | nil=>exact Nat.le_refl _
   | cons i l ih =>
    by_cases h:yb root x y i=i
    ·rw [List.filter_cons_of_pos (by simpa using h),List.filter_cons_of_pos (by simpa using (sub i h).1)];simp only [List.length_cons];omega
    ·rw [List.filter_cons_of_neg (by simpa using h)]
     by_cases h2:root i=i
     ·rw [List.filter_cons_of_pos (by simpa using h2)];simp only [List.length_cons];omega
     ·rw [List.filter_cons_of_neg (by simpa using h2)];exact ih
  intro l
  induction l with
  | nil=>intro _ h;simp at h
  | cons i l ih =>
   intro hnd hm;obtain ⟨h1,h2⟩:=List.nodup_cons.mp hnd;rcases List.mem_cons.mp hm with h | h
   ·subst h;rw [List.filter_cons_of_neg (by simpa using fun z=>(sub _ z).2 rfl),List.filter_cons_of_pos (by simpa using iy)];have:=le l;simp only [List.length_cons];omega
   ·have:=ih h2 h
    by_cases h3:yb root x y i=i
    ·rw [List.filter_cons_of_pos (by simpa using h3),List.filter_cons_of_pos (by simpa using (sub i h3).1)];simp only [List.length_cons];omega
    ·rw [List.filter_cons_of_neg (by simpa using h3)]
     by_cases h4:root i=i
     ·rw [List.filter_cons_of_pos (by simpa using h4)];simp only [List.length_cons];omega
     ·rw [List.filter_cons_of_neg (by simpa using h4)];exact this
 exact key _ List.nodup_range (List.mem_range.mpr hy)
theorem VP {root:Nat→Nat} {x y:Nat} (h:root x=root y):yb root x y=root:=by
 funext z
 unfold yb
 split
 ·rename_i h1;rw [h,h1]
 ·rfl
theorem xU {Kp:List Tri} {root:Nat→Nat} {x y:Nat} (so:∀ f:Int→Nat,(∀ e∈Kp,f e.1=f e.2.1)→∀ u v:Nat,root u=root v→f (u:Int)=f (v:Int)) {f:Int→Nat} (hf:∀ e∈Kp,f e.1=f e.2.1) (hxy:f (x:Int)=f (y:Int)):∀ u v:Nat,yb root x y u=yb root x y v→f (u:Int)=f (v:Int):=by
 intro u v h;unfold yb at h;have toY:∀ z:Nat,root z=root y→f (z:Int)=f (x:Int):=fun z hz=>(so f hf z y hz).trans hxy.symm;have toX:∀ z:Nat,root z=root x→f (z:Int)=f (x:Int):=fun z hz=>so f hf z x hz
 split at h
 ·rename_i h1
  split at h
  ·rename_i h2;rw [toY u h1,toY v h2]
  ·rename_i h2;rw [toY u h1,toX v h.symm]
 ·rename_i h1
  split at h
  ·rename_i h2;rw [toX u h,toY v h2]
  ·exact so f hf u v h
theorem z8.start {rss:List (List Int)} {a b d:Int} {x y:Nat} (ha:a=(x:Int)) (hb:b=(y:Int)) (hx:x < rss.length) (hy:y < rss.length) (hne:x≠y):z8 rss a b d [(a,b,[])] (yb (fun z=>z) x y) 0 0:=by
 subst ha hb;refine ⟨fun e he=>?_,List.pairwise_singleton _ _,fun e he q hq=>?_,fun f hf=>?_,fun m e c h1 h2 h3=>?_,fun f hf=>?_,?_,fun m e h=>?_⟩
 ·rw [List.mem_singleton.mp he];exact ⟨(fun z hz=>nomatch hz),rfl,rfl⟩
 ·rw [List.mem_singleton.mp he];have:q=((x:Int),(y:Int),[]):=by simpa using hq.symm
  rw [this];exact JQ [] 0
 ·exact hf _ (List.mem_singleton.mpr rfl) (.inl rfl)
 ·omega
 ·exact xU (Kp:=[]) (fun f _ u v h=>by rw [show u=v from h]) (f:=f) (fun e he=>nomatch he) (hf _ (List.mem_singleton.mpr rfl))
 ·have:=QT (root:=fun z=>z) (n:=rss.length) (x:=x) (y:=y) hy rfl rfl hne;have h2:ZJ (fun z=>z) rss.length=rss.length:=by
   unfold ZJ;rw [List.filter_eq_self.mpr (fun i _=>by simp),List.length_range]
  simp only [List.length_singleton];omega
 ·rw [List.mem_singleton.mp (List.mem_of_getElem? h)];exact Nat.zero_le _
theorem z8.old {rss:List (List Int)} {a b d:Int} {Kp:List Tri} {root:Nat→Nat} {k j:Nat} (P:z8 rss a b d Kp root k j) {q:Tri} (hq:Kp[k]?=some q) {x y:Nat} (hx:step rss q.1 j=(x:Int)) (hy:step rss q.2.1 j=(y:Int)) (h:root x=root y):z8 rss a b d Kp root k (j+1):=by
 refine ⟨P.ok,P.inc,fun e he q' hq'=>?_,P.first,fun m e c h1 h2 h3 f hf=>?_,P.sound,P.count,P.wl⟩
 ·rw [hq] at hq';cases hq';exact qy (P.ahead e he q hq) (zD _ (by omega))
 ·by_cases hn:m=k∧c=j
  ·obtain ⟨rfl,rfl⟩:=hn;rw [hq] at h1;cases h1;rw [hx,hy];exact P.sound f (fun e' he'=>hf e' he' (.inr (P.ahead e' he' _ hq))) x y h
  ·exact P.done m e c h1 h2 (by omega) f hf
theorem z8.new {rss:List (List Int)} {a b d:Int} {Kp:List Tri} {root:Nat→Nat} {k j:Nat} (P:z8 rss a b d Kp root k j) {q:Tri} (hq:Kp[k]?=some q) (hj:(j:Int) < d) {x y:Nat} (hx:step rss q.1 j=(x:Int)) (hy:step rss q.2.1 j=(y:Int)) (hyl:root y < rss.length) (ix:root (root x)=root x) (iy:root (root y)=root y) (h:root x≠root y) :
  z8 rss a b d (Kp++[((x:Int),(y:Int),q.2.2++[(j:Int)])]) (yb root x y) k (j+1):=by
 have hkl:k < Kp.length:=(List.getElem?_eq_some_iff.mp hq).1;have hqm:q∈Kp:=List.mem_of_getElem? hq;obtain ⟨o1,o2,o3⟩:=P.ok q hqm;refine ⟨fun e he=>?_,?_,fun e he q' hq'=>?_,fun f hf=>?_,fun m e c h1 h2 h3 f hf=>?_,fun f hf=>?_,?_,fun m e h1=>?_⟩
 ·rcases List.mem_append.mp he with he | he
  ·exact P.ok e he
  ·rw [List.mem_singleton.mp he];refine ⟨fun z hz=>?_,?_,?_⟩
   ·rcases List.mem_append.mp hz with hz | hz
    ·exact o1 z hz
    ·rw [List.mem_singleton.mp hz];omega
   ·show (x:Int)=_;rw [qO,← o2,hx]
   ·show (y:Int)=_;rw [qO,← o3,hy]
 ·refine List.pairwise_append.mpr ⟨P.inc,List.pairwise_singleton _ _,fun e he f hf=>?_⟩;rw [List.mem_singleton.mp hf];exact P.ahead e he q hq
 ·rw [List.getElem?_append_left hkl,hq] at hq';cases hq';rcases List.mem_append.mp he with he | he
  ·exact qy (P.ahead e he q hq) (zD _ (by omega))
  ·rw [List.mem_singleton.mp he];exact zD _ (by omega)
 ·exact P.first f fun e he=>hf e (List.mem_append_left _ he)
 ·by_cases hm:m < Kp.length
  ·rw [List.getElem?_append_left hm] at h1
   by_cases hn:m=k∧c=j
   ·obtain ⟨rfl,rfl⟩:=hn;rw [hq] at h1;cases h1;rw [hx,hy];exact hf ((x:Int),(y:Int),q.2.2++[(c:Int)]) (List.mem_append_right _ (List.mem_singleton.mpr rfl)) (.inl rfl)
   ·exact P.done m e c h1 h2 (by omega) f fun e' he'=>hf e' (List.mem_append_left _ he')
  ·omega
 ·exact xU P.sound (fun e he=>hf e (List.mem_append_left _ he)) (hf ((x:Int),(y:Int),_) (List.mem_append_right _ (List.mem_singleton.mpr rfl)))
 ·have:=QT (n:=rss.length) hyl ix iy h;have:=P.count;simp only [List.length_append,List.length_singleton];omega
 ·rcases Nat.lt_or_ge m Kp.length with hm | hm
  ·rw [List.getElem?_append_left hm] at h1;exact P.wl m e h1
  ·rw [List.getElem?_append_right hm] at h1;have he:=List.mem_singleton.mp (List.mem_of_getElem? h1);have:=P.wl k q hq;rw [he];simp only [List.length_append,List.length_singleton];omega
theorem z8.next {rss:List (List Int)} {a b d:Int} {Kp:List Tri} {root:Nat→Nat} {k j:Nat} (P:z8 rss a b d Kp root k j) (hj:(j:Int)=d) (hk:k < Kp.length):z8 rss a b d Kp root (k+1) 0:=by
 refine ⟨P.ok,P.inc,fun e he q' hq'=>?_,P.first,fun m e c h1 h2 h3 f hf=>P.done m e c h1 h2 (by omega) f hf,P.sound,P.count,P.wl⟩;obtain ⟨q,hq⟩:∃ q,Kp[k]?=some q:=⟨_,List.getElem?_eq_getElem hk⟩;refine qy (P.ahead e he q hq) (zK ?_ _ _);obtain ⟨h1,e1⟩:=List.getElem?_eq_some_iff.mp hq;obtain ⟨h2,e2⟩:=List.getElem?_eq_some_iff.mp hq';have:=List.pairwise_iff_getElem.mp P.inc k (k+1) h1 h2 (by omega);rw [e1,e2] at this;exact this
theorem z8.gen {rss:List (List Int)} {a b d:Int} {Kp:List Tri} {root:Nat→Nat} {k j:Nat} (P:z8 rss a b d Kp root k j) (lim:List Int→Prop)
  (hl:∀ (m:Nat) e c v,Kp[m]?=some e→(c:Nat) < d→sle e.2.2 v→lim (v++[(c:Int)])→(m < k∨(m=k∧c < j))) (hpre:∀ v x,lim (v++[x])→lim v) :
  ∀ (n:Nat) (v:List Int),v.length=n→jD d v→lim v→∀ f:Int→Nat,(∀ e∈Kp,sle e.2.2 v→f e.1=f e.2.1)→f (jF rss a v)=f (jF rss b v):=by
 intro n
 induction n with
 | zero =>
  intro v hv _ _ f hf;have:v=[]:=List.length_eq_zero_iff.mp hv;subst this;exact P.first f hf
 | succ n ih =>
  intro v hv ok hlv f hf;obtain ⟨u,x,rfl⟩:∃ u x,v=u++[x]:=⟨v.dropLast,v.getLast (fun z=>by rw [z] at hv;simp at hv),(List.dropLast_concat_getLast _).symm⟩;have hx:=ok x (by simp);obtain ⟨c,rfl⟩:∃ c:Nat,x=(c:Int):=⟨x.toNat,by omega⟩;rw [qO,qO];refine ih u (by simpa using hv) (fun z hz=>ok z (List.mem_append_left _ hz)) (hpre _ _ hlv) (fun z=>f (step rss z c)) fun e he hle=>?_;obtain ⟨m,hm⟩:=List.getElem?_of_mem he;exact P.done m e c hm hx.2 (hl m e c u hm hx.2 hle hlv) f fun e' he' hle'=>hf e' he' (ye hle' (xu hle _))
theorem z8.all {rss:List (List Int)} {a b d:Int} {Kp:List Tri} {root:Nat→Nat} (P:z8 rss a b d Kp root Kp.length 0) {f:Int→Nat} (hf:∀ e∈Kp,f e.1=f e.2.1) {v:List Int} (ok:jD d v):f (jF rss a v)=f (jF rss b v) :=
 P.gen (fun _=>True) (fun m e c v hm _ _ _=>.inl (List.getElem?_eq_some_iff.mp hm).1) (fun _ _ _=>trivial) v.length v rfl ok trivial f fun e he _=>hf e he
theorem z8.least {rss:List (List Int)} {a b d:Int} {Kp:List Tri} {root:Nat→Nat} {k:Nat} (P:z8 rss a b d Kp root k 0) {i:Nat} {q:Tri} (hq:Kp[i]?=some q) {f:Int→Nat} (hf:∀ (m:Nat) e,m < i→Kp[m]?=some e→f e.1=f e.2.1)
  {v:List Int} (ok:jD d v) (hv:slt v q.2.2):f (jF rss a v)=f (jF rss b v):=by
 obtain ⟨hil,hiq⟩:=List.getElem?_eq_some_iff.mp hq;have below:∀ e∈Kp,∀ u,sle e.2.2 u→slt u q.2.2→∃ m,m < i∧Kp[m]?=some e:=fun e he u h1 h2=>by
  obtain ⟨m,hm⟩:=List.getElem?_of_mem he;obtain ⟨hml,hme⟩:=List.getElem?_eq_some_iff.mp hm;refine ⟨m,?_,hm⟩;rcases Nat.lt_or_ge m i with h | h
  ·exact h
  ·exfalso;have h3:slt e.2.2 q.2.2:=xG h1 h2;rcases Nat.lt_or_eq_of_le h with h | h
   ·have:=List.pairwise_iff_getElem.mp P.inc i m hil hml h;rw [hiq,hme] at this;exact ku h3 this
   ·subst h;rw [hm] at hq;cases hq;exact zM _ h3
 refine P.gen (fun u=>sle u v) (fun m e c u hm hc h1 h2=>?_) (fun u x h=>ye (.inr (xy u x)) h) v.length v rfl ok (.inl rfl) f fun e he hle=>?_
 ·rcases Nat.lt_or_ge m k with h | h
  ·exact .inl h
  ·exfalso;obtain ⟨hml,hme⟩:=List.getElem?_eq_some_iff.mp hm;obtain ⟨qk,hqk⟩:∃ qk,Kp[k]?=some qk:=⟨_,List.getElem?_eq_getElem (by omega)⟩;obtain ⟨hkl,hke⟩:=List.getElem?_eq_some_iff.mp hqk;have hkm:sle qk.2.2 e.2.2:=by
    rcases Nat.lt_or_eq_of_le h with h | h
    ·have:=List.pairwise_iff_getElem.mp P.inc k m hkl hml h;rw [hke,hme] at this;exact .inr this
    ·subst h;rw [hm] at hqk;cases hqk;exact .inl rfl
   have hku:=ye hkm h1;have h3:sle (qk.2.2++[((0:Nat):Int)]) (u++[(c:Int)]):=by
    rcases hku with h | h
    ·rw [h]
     by_cases hc0:c=0
     ·subst hc0;exact .inl rfl
     ·exact .inr (zD _ (by omega))
    ·exact .inr (zK h _ _)
   have h4:=P.ahead q (List.mem_of_getElem? hq) qk hqk;have h5:slt v v:=xG (.inl rfl) (qy hv (by
    rcases ye h3 h2 with h6 | h6
    ·rw [← h6];exact h4
    ·exact qy h4 h6))
   exact zM _ h5
 ·obtain ⟨m,hm,he'⟩:=below e he v hle hv;exact hf m e hm he'
end My
namespace PySem
open PySem.Spec PyProof.Rows
section
variable {prog:Program} {w:World} {A:Around} {R:Result→Shared→Prop} {s:Shared}
theorem za {elt cond target iter:Expr} {scope:Scope} {pos:Pos} {it acc:Value} {env:Env} (I:Nat→Shared→Prop)
  (turn:∀ n s,I n s→wpAny (model prog w) A (pyNext it) (fun r s1=>match r with
   | none=>R (.ok .next) s1
   | some v=>wpAny (model prog w) A (letOwnedTupleGo target it v) (fun _ s2=>wpAny (model prog w) A (assign target env v) (fun _ s3=>wpAny (model prog w) A (isTrue cond env (eval cond env)) (fun ok sk=>if ok=true then wpAny (model prog w) A (eval elt env) (fun x s4 =>
     wpAny (model prog w) A (call (.builtin "list.append") [acc,x]) (fun _ s5=>∃ m,m < n∧I m s5) (fun _ _=>False) s4) (fun _ _=>False) sk else ∃ m,m < n∧I m sk) (fun _ _=>False) s3) (fun _ _=>False) s2) (fun _ _=>False) s1) (fun _ _=>False) s)
  (n:Nat) (h:I n s):codeAny (model prog w) A (.compLoop (.ListComp elt [⟨target,iter,[cond],0⟩] scope pos) 0 it acc env) R s:=by
 refine codeAny_loop rfl I (fun n s hI=>?_) n h;show wpAny _ _ ((compTurn (.ListComp elt [⟨target,iter,[cond],0⟩] scope pos) 0 it acc env).onRaise (fun x=>do noteFrame x env;theTreesLotGoes x)) _ _ s;refine wpAny_noted ?_;rw [compTurn_list];refine wpAny_bind (wpAny_standAt (wpAny_bind (wpAny_mono (turn n s hI) (fun r s1 h1=>?_) fun _ _ z=>z.elim)));cases r with
 | none=>exact wpAny_pure h1
 | some v =>
  refine wpAny_bind (wpAny_mono h1 (fun _ s2 h2=>wpAny_bind (wpAny_mono h2 (fun _ s3 h3=>wpAny_bind (wpAny_mono (wpAny_tests_one h3) (fun ok sk h4=>?_) fun _ _ z=>z.elim)) fun _ _ z=>z.elim)) fun _ _ z=>z.elim);cases ok with
  | false=>exact wpAny_pure ⟨rfl,h4⟩
  | true=>exact wpAny_bind (wpAny_bind (wpAny_mono h4 (fun x s4 h5=>wpAny_bind (wpAny_mono h5 (fun _ s5 h6=>wpAny_pure (wpAny_pure ⟨rfl,h6⟩)) fun _ _ z=>z.elim)) fun _ _ z=>z.elim))
end
end PySem
namespace L2
open PySem PySem.Spec PyProof.Rows
def Yl (caps:List (Option Nat)) (g:TG) (tt:TT) (te:TE) (σ:St) (Q:VK) (J:It) (H1:Hp):Prop:=∀ acc,H1 acc=none→∃ W:Nat→Nat→List V→Hp→Prop,(∃ m,W 0 m [] (upd H1 acc (.lst [])))∧∀ i m ys H,W i m ys H →
 (J.stop i H∧Q (.ref acc) H)∨(J.go i H∧∃ N:List V→Hp→Prop,(∀ ys' H',N ys' H'→∃ m',m' < m∧W (i+1) m' ys' H')∧∀ x H',J.yld i H x H'→g x (yx caps σ) H' fun σ2 H2=>Wk (yx caps σ) σ2∧tt σ2 H2 fun b H3=>if b=true then te σ2 H3 fun y H4=>H4 acc=some (.lst ys)∧ys.length < sizeLine∧N (ys++[y]) (upd H4 acc (.lst (ys++[y]))) else N ys H3)
def Zq (wi:TI) (g:TG) (tt:TT) (te:TE) (caps:List (Option Nat)):TE:=fun σ H Q=>wi σ H fun J H1=>Yl caps g tt te σ Q J H1
section
variable {X:Cx} {scope:Scope} {N':List Str} {caps:List (Option Nat)} {elt cond iter tg:Expr} {pos:Pos} {wi:TI} {g:TG} {tt:TT} {te:TE}
theorem Y6 {pins:List (Addr×Obj)} {s:Shared} {σ:St} {H:Hp} {cl:List (Str×Addr)} {Q:VK} {E:Value→Shared→Prop} {RR:Value→Addr→Result→Shared→Prop} {it:Addr} {fp:List Addr} {tn:Nat→Heap→Prop} {J:It} (hc:X.calm=true) (S:yV X.N X.env.scope scope N' caps)
  (hg:∀ cl C s H ex pins,PG (blk X N' scope cl C s H ex pins) tg g) (ht:∀ cl C s H ex pins,PT (blk X N' scope cl C s H ex pins) cond tt) (he:∀ cl C s H ex pins,PE (blk X N' scope cl C s H ex pins) elt te)
  (hcl1:∀ x c,cl.lookup x=some c→X.env.cells.lookup x=some c) (hcl2:∀ x∈scope.names,x.2=.free→∃ c,cl.lookup x.1=some c)
  (I:Inv X pins σ H s) (T:Y9 X.prog X.w X.K tg J fp it tn) (st:tn 0 s.heap) (f2:∀ b∈fp,vD X pins H b) (R:Yl caps g tt te σ Q J H)
  (hRR:∀ acc C H' s' m,s.heap.objs.size≤C→s'.heap.Ns C m→Inv X pins σ H' s'→H' C=none→Q (.ref acc) H'→RR (.ref acc) C (.ok .next) s') :
  wpAny (model X.prog X.w) X.A (newList []) (fun acc s₃=>wpAny (model X.prog X.w) X.A (newFunctionEnv scope X.env.globals cl [] X.env.qual none .none (some X.env)) (fun cenv s₄ =>
   codeAny (model X.prog X.w) X.A (.compStart (.ListComp elt [⟨tg,iter,[cond],0⟩] scope pos) 0 (.ref it) acc { cenv with scope:=relabel scope X.env }) (RR acc cenv.locals) s₄) E s₃) E s:=by
 refine wpAny_newObj_type (wpAny_newFunctionEnv S.nocell (by intro y hy;simp at hy) (fun h₁ hns₁ hsb₁=>?_) S.kind);dsimp only at hns₁ hsb₁ ⊢;generalize hP2:s.heap.push { cls:=.type "list",dict:=none,data:=.seq ([]:List Value).toArray }=P2 at hns₁ hsb₁ ⊢;have hC:P2.objs.size=s.heap.objs.size+1:=by rw [← hP2,Heap.size_push]
 have hDC:s.heap.objs.size≠P2.objs.size:=by rw [hC];exact Nat.ne_of_lt (Nat.lt_succ_self _)
 have hCle:s.heap.objs.size≤P2.objs.size:=by rw [hC];exact Nat.le_succ _
 have old:∀ b o,s.heap.get? b=some o→h₁.get? b=some o:=fun b o e=>hsb₁.extBut b o (by rw [hC];exact Nat.ne_of_lt (Nat.lt_succ_of_lt (Heap.lt_size e))) (Heap.get?_push_of_some _ (hP2 ▸ Heap.get?_push_of_some _ e));have hacc:h₁.get? s.heap.objs.size=some { cls:=.type "list",data:=.seq #[] }:=hsb₁.extBut _ _ hDC (Heap.get?_push_of_some _ (hP2 ▸ Heap.get?_push_size _ rfl));have hex:∀ b∈fp,b < s.heap.objs.size:=fun b hb=>by obtain ⟨o,e,_⟩:=T.obj 0 _ st b hb;exact Heap.lt_size e
 obtain ⟨W,⟨m0,w0⟩,turn⟩:=R s.heap.objs.size (I.hok.fresh (Nat.le_refl _));have I3:∀ t',Inv (blk X N' scope cl P2.objs.size s H fp pins) [] (yx caps σ) (upd H s.heap.objs.size (.lst [])) { s with heap:=h₁,toks:=t' }:=fun t'=>Ym (t':=t') I S hcl1 hcl2 hCle f2 hex hns₁ old hacc (Nat.le_refl _) hDC;have stat:∀ {H':Hp},(∀ b∈fp,H' b=none)→∀ b∈fp,vD (blk X N' scope cl P2.objs.size s H fp pins) [] H' b:=fun hn b hb=>by
  obtain ⟨_,q1,q2,q3,q4,q5⟩:=f2 b hb;refine ⟨hn b hb,Nat.ne_of_lt (Nat.lt_of_lt_of_le (hex b hb) hCle),fun z=>?_,.inl hb,fun x c e=>q4 x c (hcl1 x c e),fun p hp=>q5 p ?_⟩
  ·rcases List.mem_cons.mp (I.stkSub b z) with z | z
   ·exact q1 z
   ·exact q2 z
  ·have:p∈(X.pn++pins)++[]:=hp;simpa using this
 have loop:∀ s₃:Shared,s₃={ s with heap:=h₁,toks:=s.toks+([]:List (Str×Value)).length } →
   codeAny (model X.prog X.w) X.A (.compLoop (.ListComp elt [⟨tg,iter,[cond],0⟩] scope pos) 0 (.ref it) (.ref s.heap.objs.size) (compEnvC scope cl P2.objs.size X.env)) (RR (.ref s.heap.objs.size) P2.objs.size) s₃:=by
  rintro s₃ rfl
  refine za (fun n s'=>∃ i ys H',Inv (blk X N' scope cl P2.objs.size s H fp pins) [] (yx caps σ) H' s'∧tn i s'.heap∧(∀ b∈fp,H' b=none)∧W i n ys H') ?_ m0
   ⟨0,[],_,I3 _,T.keep 0 _ _ st (fun b _ o e=>old b o e),fun b hb=>by rw [j5 (Nat.ne_of_lt (hex b hb))];exact (f2 b hb).1,w0⟩
  rintro n s4 ⟨i,ys,H4,I4,st4,fr4,w4⟩
  rcases turn i n ys H4 w4 with ⟨stop,q⟩ | ⟨go,N,hN,step⟩
  ·refine thn (T.done (blk X N' scope cl P2.objs.size s H fp pins) rfl rfl rfl hc i [] s4 _ H4 _ I4 (stat fr4) st4 stop) fun r s5 ⟨hr,I5⟩=>?_;subst hr;obtain ⟨m,hm,_⟩:=id I5.loc;exact hRR _ _ H4 s5 m hCle hm (QQ I I5 f2) I5.free q
  ·refine thn (T.item (blk X N' scope cl P2.objs.size s H fp pins) rfl rfl rfl hc i [] s4 _ H4 _ I4 (stat fr4) st4 go) fun r s5 ⟨u,hr,h5⟩=>?_;subst hr;refine thn h5 fun _ s6 ⟨x,H6,I6,r6,y6,st6,fr6⟩=>?_;have I6':=I6.pinned (stat fr6) (T.obj _ _ st6);refine thn (hg cl _ s H fp pins _ s6 _ H6 x u _ I6' r6 (step x H6 y6)) fun _ s7 ⟨σ7,H7,I7,wk7,q7⟩=>?_;refine thn (ht cl _ s H fp pins _ s7 σ7 H7 _ I7 q7) fun ok s7b ⟨H7b,I7b,q7b⟩=>?_;cases ok with
   | false =>
    have q7b:N ys H7b:=q7b;obtain ⟨m',hm',w8⟩:=hN _ _ q7b;refine ⟨m',hm',i+1,ys,_,I7b.unpinned.weak wk7.1 wk7.2,T.keep _ _ _ st6 fun b hb o e=>(I7b.pin (b,o) (List.mem_append_right _ (List.mem_append_right _ (qu hb e)))).1,fun b hb=>?_,w8⟩;obtain ⟨o,e,d⟩:=T.obj _ _ st6 b hb;exact (I7b.pin (b,o) (List.mem_append_right _ (List.mem_append_right _ (qu hb e)))).2.1
   | true =>
    refine thn (he cl _ s H fp pins _ s7b σ7 H7b _ I7b q7b) fun yv s8 ⟨y,H8,I8,r8,ha8,hsz8,w8⟩=>?_;refine thn (jj (X:=blk X N' scope cl P2.objs.size s H fp pins) _ s8 σ7 H8 (.ref s.heap.objs.size) [y] (.ref s.heap.objs.size) [yv] (fun _ H9=>H9=upd H8 s.heap.objs.size (.lst (ys++[y]))) I8 rfl (.cons r8 .nil) ⟨_,ys,y,rfl,rfl,ha8,hsz8,rfl⟩) fun _ s9 ⟨_,H9,I9,_,e9⟩=>?_;subst e9;obtain ⟨m',hm',w8⟩:=hN _ _ w8;refine ⟨m',hm',i+1,ys++[y],_,I9.unpinned.weak wk7.1 wk7.2,T.keep _ _ _ st6 fun b hb o e=>(I9.pin (b,o) (List.mem_append_right _ (List.mem_append_right _ (qu hb e)))).1,fun b hb=>?_,w8⟩;obtain ⟨o,e,d⟩:=T.obj _ _ st6 b hb;exact (I9.pin (b,o) (List.mem_append_right _ (List.mem_append_right _ (qu hb e)))).2.1
 exact codeAny_compStart_list (loop _ rfl) (T.self _ 0 _ _ _ (T.keep 0 _ _ st (fun b _ o e=>old b o e)) (loop _ rfl))
theorem Vp {i:Nat} {x:Str} {pos' spos:Pos} {N:List Str} {sc0:Scope} (S:yV N sc0 scope N' caps) (hc:X.calm=true) (hN:X.N.Nodup) (hi':X.N[i]?=some x) (hx:Loc X.env.scope x) (hi:PI X tg iter wi)
  (hg:∀ cl C s H ex pins,PG (blk X N' scope cl C s H ex pins) tg g) (ht:∀ cl C s H ex pins,PT (blk X N' scope cl C s H ex pins) cond tt) (he:∀ cl C s H ex pins,PE (blk X N' scope cl C s H ex pins) elt te)
  (hsw:swapsWith (.ListComp elt [⟨tg,iter,[cond],0⟩] scope pos) (some (.Name x pos')) spos.line X.env=pure true:=by rfl)
  (hf:X.fn x=true∨X.env.scope.names.lookup x=some .local:=by first | exact .inl rfl | exact .inr rfl | assumption)
  (hs:∀ x,foldedSetIterable iter X.env x=pure x:=by intro _;rfl) (hN0:X.N=N:=by rfl) (h00:X.env.scope=sc0:=by rfl):PS X (.Assign [.Name x pos'] (.ListComp elt [⟨tg,iter,[cond],0⟩] scope pos) spos) (YQ (Zq wi g tt te caps) (zw i)):=by
 subst hN0 h00;intro pins s σ H D I h;obtain ⟨cl,hclos,hcl1,hcl2⟩:=Jf I S;rw [exec_Assign_Name_used _ _ _ _ hsw];refine wpAny_bind (wpAny_standAt (wpAny_bind ?_));show wpAny _ X.A (do let _ ← comprehension (.ListComp elt [⟨tg,iter,[cond],0⟩] scope pos) scope X.env _ (newList []) false (eval iter X.env) (some (assign (.Name x pos') X.env))) _ _ s;refine wpAny_bind (wpAny_mono (wpAny_comprehension_free (use:=some (assign (.Name x pos') X.env)) (Q:=fun _ s'=>SP X pins D .next s') rfl hs hclos S.kind S.names
  (thn (hi pins s σ H _ I h) fun xv s1 h1=>thn h1 fun itv s2 h2=>?_)) (fun _ s' hq=>wpAny_pure (wpAny_pure hq)) fun _ _ e=>e)
 obtain ⟨it,fp,tn,J,H2,e,I2,T,st2,f2,R⟩:=h2;subst e;refine Y6 (Q:=fun x H1=>zw i x σ H1 D.nx) (RR:=fun acc C=>compPost (model X.prog X.w) X.A X.xe (some (assign (.Name x pos') X.env)) (fun _ s'=>SP X pins D .next s') acc C) hc S hg ht he hcl1 hcl2 I2 T st2 f2 R ?_;intro acc C H' s' m hC hm J' hn q;obtain ⟨o,es,ep,ho,hd,hr⟩:=id hm;have hCL:C≠X.env.locals:=Nat.ne_of_gt (Nat.lt_of_lt_of_le I2.lt hC);have JP:Inv X (pins++[(C,o)]) σ H' s':=J'.pins_of fun p hp=>by
  rcases List.mem_append.mp hp with hp | hp
  ·exact J'.pin p (List.mem_append_right _ hp)
  ·have e:=List.mem_singleton.mp hp;subst e;exact ⟨ho,hn,hCL,I2.nofs hC,fun v z=>by have z':o.data=.cell v:=z;rw [hd] at z';cases z'⟩
 show wpAny _ X.A (assign (.Name x pos') X.env (.ref acc)) _ _ s';refine thn (jL hN hi' hx hf (pins++[(C,o)]) s' σ H' (.ref acc) (.ref acc) D.nx JP rfl q) fun _ s'' ⟨σ'',H'',J'',q''⟩=>?_;have hp:=J''.pin (C,o) (List.mem_append_right _ (List.mem_append_right _ (List.mem_singleton.mpr rfl)));exact ⟨m,⟨o,es,ep,hp.1,hd,hr⟩,fun h' hs'=>⟨σ'',H'',I2.letC hC J''.unpinned hp.2.1 hs',q''⟩⟩
theorem Y7 {K:PySem.W.Frag} {a:Addr} {xs:List V} {σ:St} {H:Hp} {Q:VK} (Pv:Addr→Nat→List V→Hp→Prop) (h0:∀ acc,H acc=none→Pv acc 0 [] (upd H acc (.lst [])))
  (hl:∀ acc i ys H',H acc=none→i≤xs.length→Pv acc i ys H'→SqL K H' a xs)
  (hs:∀ acc i x ys H',H acc=none→xs[i]?=some x→Pv acc i ys H'→g x (yx caps σ) H' fun σ2 H2=>Wk (yx caps σ) σ2∧tt σ2 H2 fun b H3=>if b=true then te σ2 H3 fun y H4=>H4 acc=some (.lst ys)∧ys.length < sizeLine∧Pv acc (i+1) (ys++[y]) (upd H4 acc (.lst (ys++[y]))) else Pv acc (i+1) ys H3)
  (hd:∀ acc ys H',H acc=none→Pv acc xs.length ys H'→Q (.ref acc) H'):Yl caps g tt te σ Q (Itl K a) H:=by
 intro acc hacc;refine ⟨fun i m ys H=>m=xs.length - i∧i≤xs.length∧Pv acc i ys H,⟨xs.length,by simp,Nat.zero_le _,h0 acc hacc⟩,?_⟩
 rintro i m ys H' ⟨rfl,hi,p⟩
 have q:=hl acc i ys H' hacc hi p
 by_cases hlt:i < xs.length
 ·refine .inr ⟨⟨xs,xs[i],q,by simp [hlt]⟩,Pv acc (i+1),fun ys' H' p'=>⟨xs.length - (i+1),by omega,rfl,hlt,p'⟩,fun x H'' y=>?_⟩;obtain ⟨rfl,y⟩:=y;exact hs acc i x ys H'' hacc (y xs q) p
 ·have e:i=xs.length:=by omega
  subst e;exact .inl ⟨⟨xs,q,Nat.le_refl _⟩,hd acc ys H' hacc p⟩
theorem XY {σ:St} {H:Hp} {Q:VK} (h:wi σ H fun J H1=>Yl caps g tt te σ Q J H1):Zq wi g tt te caps σ H Q:=h
end
end L2
namespace L2
open PySem PySem.Spec PyProof.Rows
section
variable {X:Cx} {CX:CXT} {k:Nat} {f C:Addr} {fd:FuncData} {ps:List Str} {sp:Sp} {dvs:List V} {ds:List Value} {E:XK} {x m:Str} {p pos apos:Pos} {e o:Expr} {es:List Expr} {ta:TE} {t:TA}
end
end L2
namespace L2
open PySem PySem.Spec PyProof.Rows
open PySem.AutoSeq1 (wpAny_loadPart')
open PySem.MeetsSeq PySem.MeetsSeq2 PySem.MeetsSeq3 PySem.SeqAt
section
variable {X:Cx} (K:PySem.W.Frag)
end
end L2
namespace My
open PySem L2
end My
namespace My
open PySem L2
end My
namespace My
open PySem L2
def jh (ls:List Bool) (i:Int):Bool:=ls.getD i.toNat false
theorem zS (rss:List (List Int)) (q x:Int) (w:List Int):jF rss q (x :: w)=jF rss (step rss q x) w:=rfl
def yZ (rss rss2:List (List Int)):List (List Int):=rss++rss2.map fun row=>row.map fun way=>way+(rss.length:Int)
theorem J5 (rss rss2:List (List Int)):(yZ rss rss2).length=rss.length+rss2.length:=by simp [yZ]
theorem Zn {d:Int} {rss rss2:List (List Int)} (W:Ways d rss) (W2:Ways d rss2):Ways d (yZ rss rss2):=by
 refine ⟨fun row hrow=>?_⟩;rw [J5];rcases List.mem_append.mp hrow with h | h
 ·obtain ⟨h1,h2⟩:=W.row row h;exact ⟨h1,fun x hx=>by have:=h2 x hx;omega⟩
 ·obtain ⟨r,hr,rfl⟩:=List.mem_map.mp h;obtain ⟨h1,h2⟩:=W2.row r hr;refine ⟨by rw [List.length_map];exact h1,fun x hx=>?_⟩;obtain ⟨y,hy,rfl⟩:=List.mem_map.mp hx;have:=h2 y hy;omega
theorem Z7 {d:Int} {rss rss2:List (List Int)} (W:Ways d rss) {q x:Int} (h0:0≤q) (h1:q < rss.length):step (yZ rss rss2) q x=step rss q x:=by
 have hq:q.toNat < rss.length:=by omega
 have e:(yZ rss rss2)[q.toNat]?=rss[q.toNat]?:=by unfold yZ;rw [List.getElem?_append_left hq]
 simp only [step,List.getD_eq_getElem?_getD,e]
theorem YI {d:Int} {rss rss2:List (List Int)} (W2:Ways d rss2) {q x:Int} (h0:0≤q) (h1:q < rss2.length) (x0:0≤x) (x1:x < d):step (yZ rss rss2) ((rss.length:Int)+q) x=(rss.length:Int)+step rss2 q x:=by
 obtain ⟨row,e1,e2,_,_⟩:=yT W2 h0 h1 x0 x1;have e3:(yZ rss rss2)[((rss.length:Int)+q).toNat]?=some (row.map fun way=>way+(rss.length:Int)):=by
  unfold yZ;rw [List.getElem?_append_right (by omega),show ((rss.length:Int)+q).toNat - rss.length=q.toNat by omega,List.getElem?_map,e1];rfl
 unfold step at e2 ⊢;rw [List.getD_eq_getElem?_getD (l:=yZ rss rss2),e3,Option.getD_some,List.getD_eq_getElem?_getD,List.getElem?_map];rw [List.getD_eq_getElem?_getD (l:=rss2),e1,Option.getD_some] at e2 ⊢;rw [e2];simp only [Option.map_some,Option.getD_some];omega
theorem ky {d:Int} {rss rss2:List (List Int)} (W:Ways d rss):∀ {w:List Int} {q:Int},jD d w→0≤q→q < rss.length→jF (yZ rss rss2) q w=jF rss q w
 | [],_,_,_,_=>rfl
 | x :: w,q,ok,h0,h1=>by
  obtain ⟨x0,x1⟩:=ok x List.mem_cons_self;obtain ⟨_,_,_,s0,s1⟩:=yT W h0 h1 x0 x1;rw [zS,zS,Z7 W h0 h1];exact ky W (fun z hz=>ok z (List.mem_cons_of_mem _ hz)) s0 s1
theorem xq {d:Int} {rss rss2:List (List Int)} (W2:Ways d rss2):∀ {w:List Int} {q:Int},jD d w→0≤q→q < rss2.length→jF (yZ rss rss2) ((rss.length:Int)+q) w=(rss.length:Int)+jF rss2 q w
 | [],_,_,_,_=>rfl
 | x :: w,q,ok,h0,h1=>by
  obtain ⟨x0,x1⟩:=ok x List.mem_cons_self;obtain ⟨_,_,_,s0,s1⟩:=yT W2 h0 h1 x0 x1;rw [zS,zS,YI W2 h0 h1 x0 x1];exact xq W2 (fun z hz=>ok z (List.mem_cons_of_mem _ hz)) s0 s1
theorem ZZ {ls ls2:List Bool} {q:Int} (h0:0≤q) (h1:q < ls.length):jh (ls++ls2) q=jh ls q:=by
 unfold jh;rw [List.getD_eq_getElem?_getD,List.getD_eq_getElem?_getD,List.getElem?_append_left (by omega)]
theorem YT {ls ls2:List Bool} {q:Int} (h0:0≤q):jh (ls++ls2) ((ls.length:Int)+q)=jh ls2 q:=by
 unfold jh;rw [List.getD_eq_getElem?_getD,List.getD_eq_getElem?_getD,List.getElem?_append_right (by omega),show ((ls.length:Int)+q).toNat - ls.length=q.toNat by omega]
theorem Y8 {d:Int} {rss rss2:List (List Int)} {ls ls2:List Bool} (W:Ways d rss) (W2:Ways d rss2) (hl:ls.length=rss.length) (h0:0 < rss.length) (h02:0 < rss2.length) {w:List Int} (ok:jD d w) :
  jh (ls++ls2) (jF (yZ rss rss2) 0 w)=jh ls (jF rss 0 w)∧jh (ls++ls2) (jF (yZ rss rss2) (rss.length:Int) w)=jh ls2 (jF rss2 0 w):=by
 obtain ⟨a0,a1⟩:=q0 W ok (Int.le_refl 0) (by omega);obtain ⟨b0,b1⟩:=q0 W2 ok (Int.le_refl 0) (by omega)
 constructor
 ·rw [ky W ok (Int.le_refl 0) (by omega),ZZ a0 (by omega)]
 ·have:=xq (rss:=rss) W2 ok (Int.le_refl 0) (by omega);rw [Int.add_zero] at this;rw [this,← hl,YT b0]
end My
namespace L2
open PySem PySem.Spec PyProof.Rows
end L2
namespace L2
open PySem PySem.Spec PyProof.Rows
section
variable {X:Cx}
end
section
variable {σ:St} {H:Hp} {tl:TE} {P:Program} {w:World}
end
end L2
namespace My
open PySem L2
end My
namespace L2
open PySem PySem.Spec PyProof.Rows
end L2
namespace My
open PySem L2
theorem vV {a b:List Int} (h:a.length < b.length):slt a b:=by
 unfold slt zu;rw [if_pos (by omega)];simpa using h
theorem ki {d:Int} {rss:List (List Int)} (W:Ways d rss) (h0:0 < rss.length):∀ (n:Nat) (w:List Int),w.length=n→jD d w→∃ e∈bfs rss,e.1=jF rss 0 w∧(e.2=w∨slt e.2 w)
 | 0,w,hl,_=>by
  have e:w=[]:=List.eq_nil_of_length_eq_zero hl;subst e;exact ⟨(0,[]),List.mem_of_getElem? (Jr W h0).head,rfl,.inl rfl⟩
 | n+1,w,hl,ok=>by
  have hne:w≠[]:=fun z=>by rw [z] at hl;cases hl
  obtain ⟨u,x,rfl⟩:∃ u x,w=u++[x]:=⟨w.dropLast,w.getLast hne,(List.dropLast_concat_getLast hne).symm⟩;obtain ⟨x0,x1⟩:=ok x (by simp);obtain ⟨e,he,e1,e2⟩:=ki W h0 n u (by simpa using hl) fun y hy=>ok y (by simp [hy]);obtain ⟨p,hp⟩:=List.getElem?_of_mem he;have hpl:p < (bfs rss).length:=by
   rcases Nat.lt_or_ge p (bfs rss).length with h | h
   ·exact h
   ·rw [List.getElem?_eq_none h] at hp;cases hp
  obtain ⟨f,hf,f1,f2⟩:=(Jr W h0).cov p e x.toNat hp (by omega) (.inl hpl);rw [show ((x.toNat:Nat):Int)=x by omega] at f1 f2;refine ⟨f,hf,?_,?_⟩
  ·rw [f1,qO,qO,((Jr W h0).ok e he).2,e1]
  ·have s:e.2++[x]=u++[x]∨slt (e.2++[x]) (u++[x]):=e2.imp (fun z=>by rw [z]) (fun z=>zK z x x);rcases f2 with f2 | f2 <;> rcases s with s | s
   ·exact .inl (f2.trans s)
   ·exact .inr (f2 ▸ s)
   ·exact .inr (s ▸ f2)
   ·exact .inr (qy f2 s)
theorem kZ (rss:List (List Int)) (q:Int) (u v:List Int):jF rss q (u++v)=jF rss (jF rss q u) v:=by
 unfold jF;rw [List.foldl_append]
end My
namespace L2
open PySem PySem.Spec PyProof.Rows
section
variable {X:Cx}
theorem Inv.turnedL {pins:List (Addr×Obj)} {σ:St} {H:Hp} {s:Shared} {h':Heap} {t':Nat} {ch:List Addr} (I:Inv X pins σ H s) (hf:∀ b∈ch,vD X pins H b) (k:∀ b o,b∉ch→s.heap.get? b=some o→h'.get? b=some o):Inv X pins σ H { s with heap:=h',toks:=t' }:=by
 have nit:∀ b u,H b=some u→b∉ch:=fun b u e z=>by rw [(hf b z).1] at e;cases e
 have hL:X.env.locals∉ch:=fun z=>(hf _ z).2.1 rfl;refine I.step (g':=s.gens) (d':=s.drawn) (ch:=ch) (fun b hb=>?_) (fun b o _ _ hc e _=>k b o hc e) (fun b o _ _ hc e _=>⟨o.slots,k b o hc e⟩) (fun _ _ _ _ n=>n)
  (fun b o hc e=>⟨o,k b o hc e⟩) (fun _ _ e=>e) (fun _ _ _ e=>e) (fun b ps e=>⟨#[],by rw [e];simp⟩) (fun m hm=>?_) (fun b u e=>?_) I.bare
 ·obtain ⟨_,f1,_,f3,f4,f5⟩:=hf b hb;exact ⟨f3,f1,f4,f5⟩
 ·obtain ⟨o,es,ep,ho,r⟩:=hm;exact ⟨o,es,ep,k _ o hL ho,r⟩
 ·refine (I.hok b u e).stay (fun c v hc q=>k c v ?_ q) (fun _ q=>q) fun _ _ q=>q;rcases hc with z | z
  ·rw [z];exact nit b u e
  ·exact nit c _ z
end
def It2 (K:PySem.W.Frag) (a b:Addr):It :=
  ⟨fun i H=>∃ xs ys x y,SqL K H a xs∧SqL K H b ys∧xs[i]?=some x∧ys[i]?=some y,
   fun i H x H'=>∃ t u v,x=.ref t∧H t=none∧H'=upd H t (.tup [u,v])∧(∀ xs,SqL K H a xs→xs[i]?=some u)∧∀ ys,SqL K H b ys→ys[i]?=some v,
   fun i H=>∃ xs ys,SqL K H a xs∧SqL K H b ys∧xs.length≤i⟩
theorem Vs {P:Program} {w:World} {K:PySem.W.Frag} {es:List Expr} {kk:Nat} {pos:Pos} (z TI TO i1 i2 a b:Addr) (ap:ZipApart z TI TO i1 i2 a b) :
  Y9 P w K (.Tuple es kk pos) (It2 K a b) [z,TI,TO,i1,i2] z (fun i h=>IsZip h z TI TO .none∧IsPair h TI (.ref i1) (.ref i2)∧(∃ p q,IsPair h TO p q)∧h.IsListIter i1 a i∧h.IsListIter i2 b i) where
 mem:=by simp
 obj:=fun i h st c hc=>by
  obtain ⟨h1,h2,⟨p,q,h3⟩,h4,h5⟩:=st;simp only [List.mem_cons,List.not_mem_nil,or_false] at hc;rcases hc with rfl | rfl | rfl | rfl | rfl
  ·exact ⟨_,h1,fun v z=>by have z':Data.fields _=Data.cell v:=z;cases z'⟩
  ·exact ⟨_,h2,fun v z=>by have z':Data.seq _ _=Data.cell v:=z;cases z'⟩
  ·exact ⟨_,h3,fun v z=>by have z':Data.seq _ _=Data.cell v:=z;cases z'⟩
  ·obtain ⟨o,e1,c,d⟩:=h4;exact ⟨o,e1,fun v z=>by rw [d] at z;cases z⟩
  ·obtain ⟨o,e1,c,d⟩:=h5;exact ⟨o,e1,fun v z=>by rw [d] at z;cases z⟩
 keep:=fun i h h' st k=>by
  obtain ⟨h1,h2,⟨p,q,h3⟩,h4,h5⟩:=st;exact ⟨k _ (by simp) _ h1,k _ (by simp) _ h2,⟨p,q,k _ (by simp) _ h3⟩,h4.at fun o q=>k _ (by simp) o q,h5.at fun o q=>k _ (by simp) o q⟩
 item:=by
  intro X hP hw hK hc i pins s σ H E I hf st hg;subst hP hw hK;obtain ⟨h1,h2,⟨p,q,h3⟩,h4,h5⟩:=st;obtain ⟨xs,ys,x,y,hqa,hqb,hx,hy⟩:=hg;obtain ⟨ia,rva,pa,hza⟩:=I.list hqa;obtain ⟨ib,rvb,pb,hzb⟩:=I.list hqb;obtain ⟨u,hu,ru⟩:=rva.get hx;obtain ⟨v,hv,rv⟩:=rvb.get hy;have hzl:z < s.heap.objs.size:=Heap.lt_size h1;have htl:TI < s.heap.objs.size:=Heap.lt_size h2;have hol:TO < s.heap.objs.size:=Heap.lt_size h3;have h1l:i1 < s.heap.objs.size:=by obtain ⟨o,q,_⟩:=id h4;exact Heap.lt_size q
  have h2l:i2 < s.heap.objs.size:=by obtain ⟨o,q,_⟩:=id h5;exact Heap.lt_size q
  refine wpAny_pyNext_zip_item ap h1 h2 h3 h4 h5 pa.isList pb.isList (x:=u) (y:=v) (by simpa using hu) (by simpa using hv) fun hh z1 o1 l1 l2 pt hsz hk=>?_;refine ⟨_,rfl,wpAny_letOwnedTupleGo_zip z1 fun h2' z2 sb=>?_⟩;have kk:∀ c o,c≠z→c≠TO→c≠i1→c≠i2→s.heap.get? c=some o→h2'.get? c=some o:=fun c o n1 n2 n3 n4 e=>sb.extBut c o n1 (hk c o n1 n2 n3 n4 e);have hT2:h2'.get? s.heap.objs.size=some { cls:=.type "tuple",data:=.seq #[u,v] }:=(sb.2 _ (Nat.ne_of_gt hzl)).trans pt;have I1:Inv X pins σ (upd H s.heap.objs.size (.tup [x,y])) { s with heap:=h2',toks:=s.toks } :=
   I.turnL (ch:=[z,TI,TO,i1,i2]) hf (fun c o hc e=>by
    simp only [List.mem_cons,List.not_mem_nil,or_false,not_or] at hc;exact kk c o hc.1 hc.2.2.1 hc.2.2.2.1 hc.2.2.2.2 e) (Nat.le_refl _)
    ⟨by show 2≤sizeLine;decide,[u,v],.cons ru (.cons rv .nil),⟨_,hT2,rfl,_,rfl⟩⟩
  refine ⟨.ref s.heap.objs.size,_,I1,rfl,⟨_,x,y,rfl,I.hok.fresh (Nat.le_refl _),rfl,fun ys' hy'=>by rw [I.list_inj hy' hqa];exact hx,fun ys' hy'=>by rw [I.list_inj hy' hqb];exact hy⟩,⟨z2,kk _ _ ap.TIz ap.TITO ap.TIi1 ap.TIi2 h2,⟨u,v,sb.extBut _ _ ap.TOz o1⟩,l1.extBut sb.extBut ap.i1z,l2.extBut sb.extBut ap.i2z⟩,fun c hc=>?_⟩;have hcl:c < s.heap.objs.size:=by
   simp only [List.mem_cons,List.not_mem_nil,or_false] at hc;rcases hc with rfl | rfl | rfl | rfl | rfl <;> assumption
  rw [j5 (Nat.ne_of_lt hcl)];exact (hf c hc).1
 done:=by
  intro X hP hw hK hc i pins s σ H E I hf st hg;subst hP hw hK;obtain ⟨h1,h2,⟨p,q,h3⟩,h4,h5⟩:=st;obtain ⟨xs,ys,hqa,hqb,hx⟩:=hg;obtain ⟨ia,rva,pa,hza⟩:=I.list hqa;obtain ⟨ib,rvb,pb,hzb⟩:=I.list hqb;have hl:=rva.length;exact wpAny_pyNext_zip_end (I.ok.hd hc) ap h1 h2 h3 h4 h5 pa.isList pb.isList (.inl (by simp;omega)) fun h' k=>⟨rfl,I.turnedL (t':=s.toks) hf (fun c o hc e=>by
   simp only [List.mem_cons,List.not_mem_nil,or_false,not_or] at hc;exact k c o hc.1 hc.2.2.1 hc.2.2.2.1 hc.2.2.2.2 e)⟩
 self:=fun _ _ _ _ _ st h=>wpAny_pyIter_zip st.1 h
section
variable {X:Cx}
theorem ZX {n a b:Nat} (ha:a < n) (hb:b < n):ZipApart (n+4) (n+2) (n+3) n (n+1) a b:=by
 constructor <;> (intro h;(have h':@Eq Nat _ _:=h);omega)
def wG (K:PySem.W.Frag) (ta:TA):TI:=fun σ H R=>ta σ H fun vs H1=>∃ a b,vs=[.ref a,.ref b]∧(∃ xs,SqL K H1 a xs)∧(∃ ys,SqL K H1 b ys)∧R (It2 K a b) H1
theorem UC (K:PySem.W.Frag) {es:List Expr} {kk:Nat} {p0:Pos} {l1 l2:Expr} {ta:TA} {p pos:Pos} (hg:Gl X "zip") (hm:X.mg "zip"=none) (ha:PA X [l1,l2] ta) (hs:starEach [l1,l2] X.env=(false,eval l1 X.env) :: starEach [l2] X.env:=by rfl) (hs2:((backTo pos (starEach [l2] X.env)).any fun x=>x.fst)=false:=by rfl) (hK:X.K=K:=by rfl) :
  PI X (.Tuple es kk p0) (.Call (.Name "zip" p) [l1,l2] [] pos) (wG K ta):=by
 subst hK;intro pins s σ H R I h;refine Call_ (v6 I hg hm boot_zip (PyProof.Rows.callWith_type1 (thn (ha pos pins s σ H _ I h) fun us s1 ⟨vs,H1,I1,r1,q1⟩=>?_) hs hs2));obtain ⟨a,b,e,⟨xs,hqa⟩,⟨ys,hqb⟩,q⟩:=q1;subst e;cases r1 with
 | cons ra rr =>
  cases rr with
  | cons rb rr =>
   cases rr;cases ra;cases rb;obtain ⟨ia,rva,pa,hza⟩:=I1.list hqa;obtain ⟨ib,rvb,pb,hzb⟩:=I1.list hqb;have hal:a < s1.heap.objs.size:=by obtain ⟨o,q,_⟩:=id pa.isList;exact Heap.lt_size q
   have hbl:b < s1.heap.objs.size:=by obtain ⟨o,q,_⟩:=id pb.isList;exact Heap.lt_size q
   refine call_zip_2 pa.isList pb.isList fun h' z1 t1 o1 l1 l2 hsz hk=>?_;refine wpAny_pyIter_zip z1 ?_;have I2:Inv X pins σ H1 { s1 with heap:=h' }:=I1.kept (t':=s1.toks) hk;have ap:ZipApart (s1.heap.objs.size+4) (s1.heap.objs.size+2) (s1.heap.objs.size+3) s1.heap.objs.size (s1.heap.objs.size+1) a b:=by
    exact ZX hal hbl
   refine ⟨s1.heap.objs.size+4,[s1.heap.objs.size+4,s1.heap.objs.size+2,s1.heap.objs.size+3,s1.heap.objs.size,s1.heap.objs.size+1],_,_,H1,rfl,I2,Vs _ _ _ _ _ a b ap,⟨z1,t1,⟨_,_,o1⟩,l1,l2⟩,fun c hc=>?_,q⟩;have hc':s1.heap.objs.size≤c:=by
    simp only [List.mem_cons,List.not_mem_nil,or_false] at hc;rcases hc with rfl | rfl | rfl | rfl | rfl <;> first | exact Nat.le_refl _ | exact Nat.le_add_right _ _
   exact I1.fpOk hc' (I1.hok.fresh hc')
theorem XR {K:PySem.W.Frag} {a b:Addr} {xs ys:List V} {g:TG} {tb:TS} {D:Ends} {σ:St} {H:Hp} (Pv:Nat→St→Hp→Prop) (h0:Pv 0 σ H) (hlen:xs.length=ys.length) (hl:∀ i σ H,i≤xs.length→Pv i σ H→SqL K H a xs∧SqL K H b ys)
  (hs:∀ i x y σ H t,xs[i]?=some x→ys[i]?=some y→Pv i σ H→H t=none→g (.ref t) σ (upd H t (.tup [x,y])) fun σ2 H2=>tb { D with nx:=Pv (i+1),ct:=Pv (i+1),bk:=D.nx } σ2 H2) (hd:∀ σ H,Pv xs.length σ H→D.nx σ H) :
  ∃ W:Nat→Nat→St→Hp→Prop,(∃ m,W 0 m σ H)∧∀ i m σ H,W i m σ H →
   ((It2 K a b).stop i H∧D.nx σ H)∨((It2 K a b).go i H∧∃ N:St→Hp→Prop,(∀ σ' H',N σ' H'→∃ m',m' < m∧W (i+1) m' σ' H')∧∀ x H',(It2 K a b).yld i H x H'→g x σ H' fun σ2 H2=>tb { D with nx:=N,ct:=N,bk:=D.nx } σ2 H2):=by
 refine ⟨fun i m σ H=>m=xs.length - i∧i≤xs.length∧Pv i σ H,⟨xs.length,by simp,Nat.zero_le _,h0⟩,?_⟩
 rintro i m σ H ⟨rfl,hi,p⟩
 have q:=hl i σ H hi p
 by_cases hlt:i < xs.length
 ·have hlt2:i < ys.length:=by omega
  refine .inr ⟨⟨xs,ys,xs[i],ys[i],q.1,q.2,by simp [hlt],by simp [hlt2]⟩,Pv (i+1),fun σ' H' p'=>⟨xs.length - (i+1),by omega,rfl,hlt,p'⟩,fun x H' y=>?_⟩;obtain ⟨t,u,v,rfl,ht,rfl,y1,y2⟩:=y;exact hs i u v σ H t (y1 xs q.1) (y2 ys q.2) p ht
 ·have e:i=xs.length:=by omega
  subst e;exact .inl ⟨⟨xs,ys,q.1,q.2,Nat.le_refl _⟩,hd σ H p⟩
end
section
variable {σ:St} {H:Hp} {ta:TA}
theorem Us {K:PySem.W.Frag} {R:It→Hp→Prop} (h:ta σ H fun vs H1=>∃ a b,vs=[.ref a,.ref b]∧(∃ xs,SqL K H1 a xs)∧(∃ ys,SqL K H1 b ys)∧R (It2 K a b) H1):wG K ta σ H R:=h
end
end L2
namespace My
open PySem L2
theorem Uu {l:List Nat} {k:Nat} (h:∀ x∈l,x≤k):l.sum≤l.length * k:=by
 induction l with
 | nil=>simp
 | cons a r ih =>
  have h1:=h a List.mem_cons_self;have h2:=ih fun x hx=>h x (List.mem_cons_of_mem _ hx);rw [List.sum_cons,List.length_cons,Nat.succ_mul];omega
theorem jn {α:Type} {l:List α} {i:Nat} {x:α} (h:l[i]?=some x):l.take (i+1)=l.take i++[x]:=by
 rw [List.take_add_one,h];rfl
end My
namespace L2
open PySem PySem.Spec PyProof.Rows
theorem Qj (n d:Nat):HT.sIx n d none=d:=rfl
theorem vG {n d:Nat} {x:Int} (h:0≤x):HT.sIx n d (some x)=min x.toNat n:=by
 show (if x < 0 then (x+(n:Int)).toNat else min x.toNat n)=_;rw [if_neg (by omega)]
theorem QW {xs:List V} {n:Int} (h0:0≤n) (h:n≤xs.length):vX xs (some n) none=xs.drop n.toNat:=by
 unfold vX;rw [vG h0,Qj,Nat.min_eq_left (by omega),List.take_of_length_le (by rw [List.length_drop];exact Nat.le_refl _)]
theorem Ky {xs:List V} {n:Int} (h0:0≤n) (h:n≤xs.length):vX xs none (some n)=xs.take n.toNat:=by
 unfold vX;rw [vG h0,Qj,Nat.min_eq_left (by omega),List.drop_zero,Nat.sub_zero]
theorem XS {xs:List V} {m n:Int} (h0:0≤m) (h1:m≤n) (h:n≤xs.length):vX xs (some m) (some n)=(xs.drop m.toNat).take (n.toNat - m.toNat):=by
 unfold vX;rw [vG h0,vG (by omega),Nat.min_eq_left (by omega),Nat.min_eq_left (by omega)]
end L2
namespace My
abbrev Bk:=List (List Int×Bool)
def saidO (kvs:List (List Int×Bool)) (ws:List Int):Option Bool:=(kvs.find? fun kv=>decide (kv.1=ws)).map (·.2)
theorem zR (kn:Bk) (w:List Int) (b:Bool) (u:List Int):saidO (kn++[(w,b)]) u=(saidO kn u).or (if w=u then some b else none):=by
 unfold saidO;rw [List.find?_append];cases h:kn.find? fun kv=>decide (kv.1=u) with
 | some x=>simp
 | none =>
  by_cases e:w=u
  ·simp [List.find?,e]
  ·simp [List.find?,e]
theorem qd {kn:Bk} {w u:List Int} {b c:Bool} (h:saidO kn u=some c):saidO (kn++[(w,b)]) u=some c:=by rw [zR,h];rfl
theorem ZP {kn:Bk} {w:List Int} {b:Bool} (h:saidO kn w=none):saidO (kn++[(w,b)]) w=some b:=by rw [zR,h,if_pos rfl];rfl
theorem J1 {kn:Bk} {w u:List Int} {b c:Bool} (h:saidO (kn++[(w,b)]) u=some c):saidO kn u=some c∨u=w:=by
 rw [zR] at h;cases hk:saidO kn u with
 | some x=>rw [hk] at h;exact .inl h
 | none =>
  rw [hk] at h
  by_cases e:w=u
  ·exact .inr e.symm
  ·rw [if_neg e] at h;cases h
def jT (d:Int) (h:List Int):List (List Int):=(List.range d.toNat).map fun (j:Nat)=>h++[(j:Int)]
def jC (d:Int) (heads:List (List Int)):List (List Int):=heads.flatMap fun h=>h :: jT d h
def yG (kn:Bk) (tails:List (List Int)) (l:List Int):Option (List Int):=(tails.find? fun t=>(saidO kn (l++t)).isNone).map fun t=>l++t
def jt (d:Int) (kn:Bk) (heads tails:List (List Int)):Option (List Int):=(jC d heads).findSome? (yG kn tails)
def jQ (kn:Bk) (tails:List (List Int)) (l:List Int):List Bool:=tails.map fun t=>(saidO kn (l++t)).getD false
def jN (kn:Bk) (heads tails:List (List Int)):List (List Bool):=heads.map (jQ kn tails)
def qB (d:Int) (kn:Bk) (heads tails:List (List Int)):Option (List Int):=(jC d heads).find? fun l=>!decide (jQ kn tails l∈jN kn heads tails)
def ya (d:Int) (kn:Bk) (tails:List (List Int)):Nat→List (List Int)→List (List Int)
 | 0,hs=>hs
 | n+1,hs=>match jt d kn hs tails with
  | some _=>hs
  | none=>match qB d kn hs tails with
   | none=>hs
   | some e=>ya d kn tails n (hs++[e])
def zQ (d:Int) (kn:Bk) (tails heads:List (List Int)):List (List Int):=ya d kn tails 400 heads
def qi (tails:List (List Int)) (w:List Int):Nat→List (List Int)
 | 0=>tails
 | k+1=>if w.drop (w.length - (k+1))∈qi tails w k then qi tails w k else qi tails w k++[w.drop (w.length - (k+1))]
def yW (tails:List (List Int)) (w:List Int):List (List Int):=qi tails w w.length
theorem yL (d:Int) (heads:List (List Int)) (h:List Int):jC d (heads++[h])=jC d heads++h :: jT d h:=by
 unfold jC;rw [List.flatMap_append];simp
theorem qJ (d:Int) (h:List Int):(jT d h).length=d.toNat:=by simp [jT]
theorem yI (d:Int):∀ heads:List (List Int),(jC d heads).length=heads.length * (d.toNat+1)
 | []=>by simp [jC]
 | h :: r=>by
  show ((h :: jT d h)++jC d r).length=_;rw [List.length_append,yI d r,List.length_cons,qJ,List.length_cons,Nat.succ_mul];omega
theorem qF {d:Int} {heads:List (List Int)} {l:List Int}:l∈jC d heads↔∃ h∈heads,l=h∨∃ x:Int,0≤x∧x < d∧l=h++[x]:=by
 unfold jC;rw [List.mem_flatMap]
 constructor
 ·rintro ⟨h,hh,hl⟩
  refine ⟨h,hh,?_⟩;rcases List.mem_cons.mp hl with e | e
  ·exact .inl e
  ·obtain ⟨j,hj,rfl⟩:=List.mem_map.mp e;have:=List.mem_range.mp hj;exact .inr ⟨j,by omega,by omega,rfl⟩
 ·rintro ⟨h,hh,hl⟩
  refine ⟨h,hh,?_⟩;rcases hl with e | ⟨x,x0,x1,e⟩
  ·rw [e];exact List.mem_cons_self
  ·refine List.mem_cons_of_mem _ (List.mem_map.mpr ⟨x.toNat,List.mem_range.mpr (by omega),?_⟩);rw [e,Int.toNat_of_nonneg x0]
theorem kB (d:Int):∀ (heads:List (List Int)) (i j:Nat) (h:List Int),heads[i]?=some h→j≤d.toNat→(jC d heads)[i * (d.toNat+1)+j]?=(h :: jT d h)[j]?
 | [],i,j,h,e,_=>by simp at e
 | g :: r,0,j,h,e,hj=>by
  simp at e;subst e;show ((g :: jT d g)++jC d r)[0 * (d.toNat+1)+j]?=_;rw [Nat.zero_mul,Nat.zero_add,List.getElem?_append_left (by rw [List.length_cons,qJ];omega)]
 | g :: r,i+1,j,h,e,hj=>by
  show ((g :: jT d g)++jC d r)[(i+1) * (d.toNat+1)+j]?=_;have hl:(g :: jT d g).length=d.toNat+1:=by rw [List.length_cons,qJ]
  rw [List.getElem?_append_right (by rw [hl,Nat.succ_mul];omega),hl,show (i+1) * (d.toNat+1)+j - (d.toNat+1)=i * (d.toNat+1)+j by rw [Nat.succ_mul];omega];exact kB d r i j h (by simpa using e) hj
theorem xS {d:Int} {heads:List (List Int)} {i:Nat} {h:List Int} (e:heads[i]?=some h):(jC d heads)[i * (d.toNat+1)]?=some h:=by
 have:=kB d heads i 0 h e (Nat.zero_le _);simpa using this
theorem YN {d:Int} {heads:List (List Int)} {i j:Nat} {h:List Int} (e:heads[i]?=some h) (hj:j < d.toNat):(jC d heads)[i * (d.toNat+1)+1+j]?=some (h++[(j:Int)]):=by
 have:=kB d heads i (j+1) h e (by omega);rw [show i * (d.toNat+1)+1+j=i * (d.toNat+1)+(j+1) by omega,this,List.getElem?_cons_succ];unfold jT;rw [List.getElem?_map,List.getElem?_range hj];rfl
theorem zB {kn:Bk} {tails:List (List Int)} {l:List Int}:yG kn tails l=none↔∀ t∈tails,∃ b,saidO kn (l++t)=some b:=by
 unfold yG;rw [Option.map_eq_none_iff,List.find?_eq_none]
 constructor
 ·intro h t ht;have:=h t ht;cases e:saidO kn (l++t) with
  | none=>rw [e] at this;simp at this
  | some b=>exact ⟨b,rfl⟩
 ·intro h t ht;obtain ⟨b,e⟩:=h t ht;rw [e];simp
theorem ql {d:Int} {kn:Bk} {heads tails:List (List Int)}:jt d kn heads tails=none↔∀ l∈jC d heads,∀ t∈tails,∃ b,saidO kn (l++t)=some b:=by
 unfold jt;rw [List.findSome?_eq_none_iff];exact ⟨fun h l hl=>zB.mp (h l hl),fun h l hl=>zB.mpr (h l hl)⟩
theorem vk {d:Int} {kn:Bk} {heads tails:List (List Int)} {w:List Int} (h:jt d kn heads tails=some w):∃ l∈jC d heads,∃ t∈tails,w=l++t∧saidO kn w=none:=by
 unfold jt at h;obtain ⟨l,hl,hg⟩:=List.exists_of_findSome?_eq_some h;unfold yG at hg;obtain ⟨t,ht,rfl⟩:=Option.map_eq_some_iff.mp hg;have:=List.find?_some ht;exact ⟨l,hl,t,List.mem_of_find?_eq_some ht,rfl,by simpa using this⟩
theorem zN {d:Int} {kn:Bk} {heads tails:List (List Int)}:qB d kn heads tails=none↔∀ l∈jC d heads,jQ kn tails l∈jN kn heads tails:=by
 unfold qB;rw [List.find?_eq_none]
 constructor
 ·intro h l hl;have:=h l hl;simpa using this
 ·intro h l hl;simpa using h l hl
theorem xX {d:Int} {kn:Bk} {heads tails:List (List Int)} {e:List Int} (h:qB d kn heads tails=some e):e∈jC d heads∧jQ kn tails e∉jN kn heads tails:=by
 unfold qB at h;have:=List.find?_some h;exact ⟨List.mem_of_find?_eq_some h,by simpa using this⟩
theorem zO {d:Int} {kn:Bk} {tails heads:List (List Int)} (h:jt d kn heads tails≠none∨qB d kn heads tails=none):∀ n,ya d kn tails n heads=heads
 | 0=>rfl
 | n+1=>by
  unfold ya;cases hq:jt d kn heads tails with
  | some w=>rfl
  | none =>
   rcases h with h | h
   ·exact absurd hq h
   ·simp only [h]
theorem vC {d:Int} {kn:Bk} {tails heads:List (List Int)} {e:List Int} (h1:jt d kn heads tails=none) (h2:qB d kn heads tails=some e) (n:Nat):ya d kn tails (n+1) heads=ya d kn tails n (heads++[e]):=by
 conv=>lhs;unfold ya
 simp only [h1,h2]
theorem zH {α:Type} [DecidableEq α]:∀ {l m:List α},l.Nodup→(∀ x∈l,x∈m)→l.length≤m.length
 | [],m,_,_=>by simp
 | x :: l,m,hn,h=>by
  obtain ⟨h1,h2⟩:=List.nodup_cons.mp hn;have hx:=h x List.mem_cons_self;have:=zH (l:=l) (m:=m.erase x) h2 fun y hy=>by
   have hyx:y≠x:=fun e=>h1 (by rw [← e];exact hy);exact (List.mem_erase_of_ne hyx).mpr (h y (List.mem_cons_of_mem _ hy))
  rw [List.length_erase_of_mem hx] at this;have hm:0 < m.length:=List.length_pos_of_mem hx;rw [List.length_cons];omega
structure LI (d:Int) (kn:Bk) (heads tails:List (List Int)):Prop where
 hd0:heads[0]?=some []
 tl0:tails[0]?=some []
 hok:∀ h∈heads,jD d h
 tok:∀ t∈tails,jD d t
 pre:∀ (i:Nat) h,heads[i+1]?=some h→∃ (j:Nat) (g:List Int) (x:Int),j≤i∧heads[j]?=some g∧0≤x∧x < d∧h=g++[x]
 suf:∀ x t,x :: t∈tails→t∈tails
 dis:∀ (i j:Nat) g h,i < j→heads[i]?=some g→heads[j]?=some h→∃ t∈tails,∃ b,saidO kn (g++t)=some b∧saidO kn (h++t)=some (!b)
 kno:∀ (j:Nat) h,heads[j+1]?=some h→∃ b,saidO kn h=some b
 src:∀ w b,saidO kn w=some b→∃ l∈jC d heads,∃ t∈tails,w=l++t
theorem LI.start (d:Int):LI d [] [[]] [[]] where
 hd0:=rfl
 tl0:=rfl
 hok:=fun h hh x hx=>by rw [List.mem_singleton.mp hh] at hx;exact nomatch hx
 tok:=fun h hh x hx=>by rw [List.mem_singleton.mp hh] at hx;exact nomatch hx
 pre:=fun i h e=>by simp at e
 suf:=fun x t h=>by simp at h
 dis:=fun i j g h hij e1 e2=>by
  have h1:=(List.getElem?_eq_some_iff.mp e2).1;simp at h1;omega
 kno:=fun j h e=>by simp at e
 src:=fun w b e=>by simp [saidO] at e
section
variable {d:Int} {kn:Bk} {heads tails:List (List Int)}
theorem LI.mem0 (I:LI d kn heads tails):[]∈heads:=List.mem_of_getElem? I.hd0
theorem LI.tmem0 (I:LI d kn heads tails):[]∈tails:=List.mem_of_getElem? I.tl0
theorem LI.hlen (I:LI d kn heads tails):∀ (n i:Nat) (h:List Int),i≤n→heads[i]?=some h→h.length≤i
 | n,0,h,_,e=>by rw [I.hd0] at e;cases e;simp
 | 0,i+1,h,hn,e=>by omega
 | n+1,i+1,h,hn,e=>by
  obtain ⟨j,g,x,hj,hg,_,_,rfl⟩:=I.pre i h e;have:=LI.hlen I n j g (by omega) hg;rw [List.length_append,List.length_singleton];omega
theorem LI.hlenM (I:LI d kn heads tails) {h:List Int} (hh:h∈heads):h.length < heads.length:=by
 obtain ⟨i,hi⟩:=List.getElem?_of_mem hh;have:=I.hlen i i h (Nat.le_refl _) hi;have:=(List.getElem?_eq_some_iff.mp hi).1;omega
theorem LI.lok (I:LI d kn heads tails) {l:List Int} (hl:l∈jC d heads):jD d l∧l.length≤heads.length:=by
 obtain ⟨h,hh,e⟩:=qF.mp hl;have h1:=I.hok h hh;have h2:=I.hlenM hh;rcases e with rfl | ⟨x,x0,x1,rfl⟩
 ·exact ⟨h1,by omega⟩
 ·refine ⟨fun y hy=>?_,by rw [List.length_append,List.length_singleton];omega⟩;rcases List.mem_append.mp hy with hy | hy
  ·exact h1 y hy
  ·rw [List.mem_singleton.mp hy];exact ⟨x0,x1⟩
theorem vK {d:Int} {a b:List Int} (ha:jD d a) (hb:jD d b):jD d (a++b):=fun x hx=>by
 rcases List.mem_append.mp hx with h | h
 ·exact ha x h
 ·exact hb x h
theorem LI.qok (I:LI d kn heads tails) {w:List Int} (h:jt d kn heads tails=some w):jD d w∧saidO kn w=none:=by
 obtain ⟨l,hl,t,ht,rfl,e⟩:=vk h;exact ⟨vK (I.lok hl).1 (I.tok t ht),e⟩
theorem LI.note (I:LI d kn heads tails) {w:List Int} (b:Bool) (h:jt d kn heads tails=some w):LI d (kn++[(w,b)]) heads tails where
 hd0:=I.hd0
 tl0:=I.tl0
 hok:=I.hok
 tok:=I.tok
 pre:=I.pre
 suf:=I.suf
 dis:=fun i j g h hij e1 e2=>by
  obtain ⟨t,ht,c,h1,h2⟩:=I.dis i j g h hij e1 e2;exact ⟨t,ht,c,qd h1,qd h2⟩
 kno:=fun j h e=>by
  obtain ⟨c,hc⟩:=I.kno j h e;exact ⟨c,qd hc⟩
 src:=fun u c e=>by
  rcases J1 e with e | e
  ·exact I.src u c e
  ·obtain ⟨l,hl,t,ht,e2,_⟩:=vk h;exact ⟨l,hl,t,ht,e.trans e2⟩
theorem US {kn:Bk} {tails:List (List Int)} {g h:List Int} (hg:∀ t∈tails,∃ b,saidO kn (g++t)=some b) (hh:∀ t∈tails,∃ b,saidO kn (h++t)=some b) (hne:jQ kn tails g≠jQ kn tails h) :
  ∃ t∈tails,∃ b,saidO kn (g++t)=some b∧saidO kn (h++t)=some (!b):=by
 have:∃ t∈tails,(saidO kn (g++t)).getD false≠(saidO kn (h++t)).getD false:=by
  refine Classical.byContradiction fun hc=>hne ?_;unfold jQ;refine List.map_congr_left fun t ht=>Classical.byContradiction fun z=>hc ⟨t,ht,z⟩
 obtain ⟨t,ht,e⟩:=this;obtain ⟨b,hb⟩:=hg t ht;obtain ⟨c,hc⟩:=hh t ht;refine ⟨t,ht,b,hb,?_⟩;rw [hb,hc] at e;rw [hc];cases b <;> cases c <;> simp at e ⊢
theorem LI.grown (I:LI d kn heads tails) {e:List Int} (h1:jt d kn heads tails=none) (h2:qB d kn heads tails=some e):LI d kn (heads++[e]) tails:=by
 obtain ⟨he,hr⟩:=xX h2;have hk:=ql.mp h1;obtain ⟨g,hg,hx⟩:=qF.mp he;have hx:∃ x:Int,0≤x∧x < d∧e=g++[x]:=by
  rcases hx with rfl | hx
  ·exact absurd (List.mem_map.mpr ⟨e,hg,rfl⟩) hr
  ·exact hx
 obtain ⟨x,x0,x1,ex⟩:=hx;have hpos:0 < heads.length:=List.length_pos_of_mem I.mem0;refine ⟨?_,I.tl0,fun h hh=>?_,I.tok,fun i h e'=>?_,I.suf,fun i j a b hij e1 e2=>?_,fun j h e'=>?_,fun w b e'=>?_⟩
 ·rw [List.getElem?_append_left hpos];exact I.hd0
 ·rcases List.mem_append.mp hh with hh | hh
  ·exact I.hok h hh
  ·rw [List.mem_singleton.mp hh];exact (I.lok he).1
 ·by_cases hi:i+1 < heads.length
  ·rw [List.getElem?_append_left hi] at e';obtain ⟨j,g',x',hj,hg',r⟩:=I.pre i h e';exact ⟨j,g',x',hj,by rw [List.getElem?_append_left (by omega)];exact hg',r⟩
  ·have hi2:i+1=heads.length:=by
    have:=(List.getElem?_eq_some_iff.mp e').1;rw [List.length_append,List.length_singleton] at this;omega
   rw [hi2,List.getElem?_append_right (Nat.le_refl _),Nat.sub_self] at e';have e'':e=h:=by simpa using e'
   obtain ⟨j,hj⟩:=List.getElem?_of_mem hg;have hjl:=(List.getElem?_eq_some_iff.mp hj).1;exact ⟨j,g,x,by omega,by rw [List.getElem?_append_left hjl];exact hj,x0,x1,by rw [← e'',ex]⟩
 ·by_cases hj:j < heads.length
  ·rw [List.getElem?_append_left hj] at e2;rw [List.getElem?_append_left (by omega)] at e1;exact I.dis i j a b hij e1 e2
  ·have hj2:j=heads.length:=by
    have:=(List.getElem?_eq_some_iff.mp e2).1;rw [List.length_append,List.length_singleton] at this;omega
   rw [List.getElem?_append_left (by omega)] at e1;rw [hj2,List.getElem?_append_right (Nat.le_refl _),Nat.sub_self] at e2;have e2:e=b:=by simpa using e2
   subst e2;have ha:=List.mem_of_getElem? e1;refine US (hk a (qF.mpr ⟨a,ha,.inl rfl⟩)) (hk e he) fun z=>hr ?_;rw [← z];exact List.mem_map.mpr ⟨a,ha,rfl⟩
 ·by_cases hj:j+1 < heads.length
  ·rw [List.getElem?_append_left hj] at e';exact I.kno j h e'
  ·have hj2:j+1=heads.length:=by
    have:=(List.getElem?_eq_some_iff.mp e').1;rw [List.length_append,List.length_singleton] at this;omega
   rw [hj2,List.getElem?_append_right (Nat.le_refl _),Nat.sub_self] at e';have e'':e=h:=by simpa using e'
   obtain ⟨b,hb⟩:=hk e he [] I.tmem0;rw [List.append_nil] at hb;exact ⟨b,by rw [← e''];exact hb⟩
 ·obtain ⟨l,hl,t,ht,r⟩:=I.src w b e';refine ⟨l,?_,t,ht,r⟩;rw [yL];exact List.mem_append_left _ hl
theorem yN {tails:List (List Int)} {w:List Int}:∀ {k:Nat} {t:List Int},t∈tails→t∈qi tails w k
 | 0,t,h=>h
 | k+1,t,h=>by
  unfold qi
  split
  ·exact yN h
  ·exact List.mem_append_left _ (yN h)
theorem xT {tails:List (List Int)} {w:List Int}:∀ {k j:Nat},0 < j→j≤k→w.drop (w.length - j)∈qi tails w k
 | 0,j,h0,h=>by omega
 | k+1,j,h0,h=>by
  unfold qi
  by_cases e:j=k+1
  ·subst e
   split
   ·assumption
   ·exact List.mem_append_right _ (List.mem_singleton.mpr rfl)
  ·have:=xT (tails:=tails) (w:=w) (k:=k) h0 (by omega)
   split
   ·exact this
   ·exact List.mem_append_left _ this
theorem zE {tails:List (List Int)} {w:List Int}:∀ {k:Nat} {t:List Int},t∈qi tails w k→t∈tails∨∃ j,0 < j∧j≤k∧t=w.drop (w.length - j)
 | 0,t,h=>.inl h
 | k+1,t,h=>by
  unfold qi at h
  split at h
  ·rcases zE h with h | ⟨j,h0,h1,e⟩
   ·exact .inl h
   ·exact .inr ⟨j,h0,by omega,e⟩
  ·rcases List.mem_append.mp h with h | h
   ·rcases zE h with h | ⟨j,h0,h1,e⟩
    ·exact .inl h
    ·exact .inr ⟨j,h0,by omega,e⟩
   ·exact .inr ⟨k+1,by omega,Nat.le_refl _,List.mem_singleton.mp h⟩
theorem yf {tails:List (List Int)} {w:List Int}:∀ (k:Nat),∃ r,qi tails w k=tails++r∧r.length≤k
 | 0=>⟨[],by simp [qi],by simp⟩
 | k+1=>by
  obtain ⟨r,e,hr⟩:=yf (tails:=tails) (w:=w) k;unfold qi
  split
  ·exact ⟨r,e,by omega⟩
  ·exact ⟨r++[w.drop (w.length - (k+1))],by rw [e,List.append_assoc],by simp;omega⟩
theorem LI.told (I:LI d kn heads tails) {w:List Int} (b:Bool) (hw:jD d w) (hn:saidO kn w=none):LI d (kn++[(w,b)]) heads (yW tails w) where
 hd0:=I.hd0
 tl0:=by
  obtain ⟨r,e,_⟩:=yf (tails:=tails) (w:=w) w.length;unfold yW;rw [e,List.getElem?_append_left (List.length_pos_of_mem I.tmem0)];exact I.tl0
 hok:=I.hok
 tok:=fun t ht x hx=>by
  rcases zE ht with h | ⟨j,_,_,e⟩
  ·exact I.tok t h x hx
  ·rw [e] at hx;exact hw x (List.mem_of_mem_drop hx)
 pre:=I.pre
 suf:=fun x t h=>by
  rcases zE h with h | ⟨j,h0,h1,e⟩
  ·exact yN (I.suf x t h)
  ·by_cases hj:j=1
   ·subst hj;have hl:=congrArg List.length e;rw [List.length_cons,List.length_drop] at hl;have:t=[]:=List.eq_nil_of_length_eq_zero (by omega);rw [this];exact yN I.tmem0
   ·have e2:t=w.drop (w.length - (j - 1)):=by
     have:=congrArg List.tail e;rw [List.tail_cons,List.tail_drop] at this;rw [this];congr 1;omega
    rw [e2];exact xT (by omega) (by omega)
 dis:=fun i j g h hij e1 e2=>by
  obtain ⟨t,ht,c,h1,h2⟩:=I.dis i j g h hij e1 e2;exact ⟨t,yN ht,c,qd h1,qd h2⟩
 kno:=fun j h e=>by
  obtain ⟨c,hc⟩:=I.kno j h e;exact ⟨c,qd hc⟩
 src:=fun u c e=>by
  rcases J1 e with e | e
  ·obtain ⟨l,hl,t,ht,r⟩:=I.src u c e;exact ⟨l,hl,t,yN ht,r⟩
  ·refine ⟨[],qF.mpr ⟨[],I.mem0,.inl rfl⟩,u,?_,rfl⟩;rw [e]
   by_cases hw0:w=[]
   ·rw [hw0];exact yN I.tmem0
   ·have hp:0 < w.length:=List.length_pos_iff.mpr hw0;have:=xT (tails:=tails) (w:=w) (k:=w.length) hp (Nat.le_refl _);rw [Nat.sub_self,List.drop_zero] at this;exact this
end
end My
namespace My
def ixR (kn:Bk) (heads tails:List (List Int)) (l:List Int):Int:=(((jN kn heads tails).findIdx fun r=>decide (r=jQ kn tails l):Nat):Int)
def jR (d:Int) (kn:Bk) (heads tails:List (List Int)):List (List Int):=heads.map fun h=>(jT d h).map (ixR kn heads tails)
def jf (kn:Bk) (heads:List (List Int)):List Bool:=heads.map fun h=>(saidO kn h).getD false
structure y7 (d:Int) (kn:Bk) (heads tails:List (List Int)):Prop where
 q:jt d kn heads tails=none
 l:qB d kn heads tails=none
def jW (rss:List (List Int)) (ls:List Bool) (w:List Int):Bool:=ls.getD (jF rss 0 w).toNat false
theorem JS {kn:Bk} {tails:List (List Int)} {g h:List Int} (e:jQ kn tails g=jQ kn tails h):∀ t∈tails,(saidO kn (g++t)).getD false=(saidO kn (h++t)).getD false:=by
 unfold jQ at e;exact fun t ht=>List.map_inj_left.mp e t ht
section
variable {d:Int} {kn:Bk} {heads tails:List (List Int)}
theorem LI.rne (I:LI d kn heads tails) {i j:Nat} {g h:List Int} (hij:i < j) (e1:heads[i]?=some g) (e2:heads[j]?=some h):jQ kn tails g≠jQ kn tails h:=fun z=>by
 obtain ⟨t,ht,b,h1,h2⟩:=I.dis i j g h hij e1 e2;have:=JS z t ht;rw [h1,h2] at this;cases b <;> simp at this
theorem LI.ix_head (I:LI d kn heads tails) {i:Nat} {h:List Int} (e:heads[i]?=some h) {l:List Int} (hr:jQ kn tails h=jQ kn tails l):ixR kn heads tails l=i:=by
 unfold ixR;obtain ⟨hi,eh⟩:=List.getElem?_eq_some_iff.mp e;have hi':i < (jN kn heads tails).length:=by unfold jN;rw [List.length_map];exact hi
 have:(jN kn heads tails).findIdx (fun r=>decide (r=jQ kn tails l))=i:=by
  rw [List.findIdx_eq hi'];have gm:∀ (j:Nat) (hj:j < (jN kn heads tails).length) (hj2:j < heads.length),(jN kn heads tails)[j]=jQ kn tails heads[j]:=fun j hj hj2=>by simp [jN]
  refine ⟨by rw [gm i hi' hi,eh];simpa using hr,fun j hj=>?_⟩;rw [gm j (by omega) (by omega)];have:=I.rne hj (List.getElem?_eq_getElem (by omega)) e;rw [hr] at this;simpa using this
 rw [this]
theorem LI.ix_ok (I:LI d kn heads tails) (C:y7 d kn heads tails) {l:List Int} (hl:l∈jC d heads):∃ (i:Nat) (h:List Int),heads[i]?=some h∧ixR kn heads tails l=i∧jQ kn tails h=jQ kn tails l:=by
 have:=zN.mp C.l l hl;obtain ⟨h,hh,e⟩:=List.mem_map.mp this;obtain ⟨i,hi⟩:=List.getElem?_of_mem hh;exact ⟨i,h,hi,I.ix_head hi e,e⟩
theorem Vm {h:List Int} {x:Int} (x0:0≤x) (x1:x < d):(jT d h)[x.toNat]?=some (h++[x]):=by
 unfold jT;rw [List.getElem?_map,List.getElem?_range (by omega)];simp [Int.toNat_of_nonneg x0]
theorem vA {i:Nat} {h:List Int} (e:heads[i]?=some h) {x:Int} (x0:0≤x) (x1:x < d):step (jR d kn heads tails) (i:Int) x=ixR kn heads tails (h++[x]):=by
 unfold step jR;simp only [Int.toNat_natCast,List.getD_eq_getElem?_getD,List.getElem?_map,e,Option.map_some,Option.getD_some,Vm x0 x1]
theorem z5 {h:List Int} (hh:h∈heads) {x:Int} (x0:0≤x) (x1:x < d):h++[x]∈jC d heads:=qF.mpr ⟨h,hh,.inr ⟨x,x0,x1,rfl⟩⟩
theorem LI.walk_tail (I:LI d kn heads tails) (C:y7 d kn heads tails):∀ (t:List Int),t∈tails→∀ (i:Nat) (h:List Int),heads[i]?=some h →
  ∃ (j:Nat) (g:List Int),heads[j]?=some g∧jF (jR d kn heads tails) (i:Int) t=j∧saidO kn g=saidO kn (h++t)
 | [],_,i,h,e=>⟨i,h,e,rfl,by rw [List.append_nil]⟩
 | x :: t,ht,i,h,e=>by
  have hx:=I.tok _ ht x List.mem_cons_self;have hl:=z5 (List.mem_of_getElem? e) hx.1 hx.2;obtain ⟨j,g,hj,ej,er⟩:=I.ix_ok C hl;have ht':=I.suf x t ht;obtain ⟨k,f,hk,ek,es⟩:=I.walk_tail C t ht' j g hj;refine ⟨k,f,hk,?_,?_⟩
  ·show jF _ (step _ (i:Int) x) t=_;rw [vA e hx.1 hx.2,ej,ek]
  ·rw [es];have:=JS er t ht';have all:=ql.mp C.q;obtain ⟨b,hb⟩:=all g (qF.mpr ⟨g,List.mem_of_getElem? hj,.inl rfl⟩) t ht';obtain ⟨c,hc⟩:=all _ hl t ht';rw [hb,hc] at this;rw [hb,show h++x :: t=h++[x]++t by simp,hc];simpa using this
theorem LI.walk_head (I:LI d kn heads tails) (C:y7 d kn heads tails):∀ (n i:Nat) (h:List Int),i≤n→heads[i]?=some h→jF (jR d kn heads tails) 0 h=i
 | n,0,h,_,e=>by rw [I.hd0] at e;cases e;rfl
 | 0,i+1,h,hn,e=>by omega
 | n+1,i+1,h,hn,e=>by
  obtain ⟨j,g,x,hj,hg,x0,x1,rfl⟩:=I.pre i h e;rw [qO,LI.walk_head I C n j g (by omega) hg,vA hg x0 x1];exact I.ix_head e rfl
theorem xV {j:Nat} {g:List Int} {b:Bool} (hg:heads[j]?=some g) (hb:saidO kn g=some b):(jf kn heads).getD ((j:Int)).toNat false=b:=by
 unfold jf;rw [Int.toNat_natCast,List.getD_eq_getElem?_getD,List.getElem?_map,hg,Option.map_some,Option.getD_some,hb];rfl
theorem LI.says (I:LI d kn heads tails) (C:y7 d kn heads tails) {w:List Int} {b:Bool} (hw:saidO kn w=some b):jW (jR d kn heads tails) (jf kn heads) w=b:=by
 obtain ⟨l,hl,t,ht,rfl⟩:=I.src w b hw;obtain ⟨h,hh,e⟩:=qF.mp hl;obtain ⟨i,hi⟩:=List.getElem?_of_mem hh;unfold jW;rw [kZ];rcases e with rfl | ⟨x,x0,x1,rfl⟩
 ·rw [I.walk_head C i i l (Nat.le_refl _) hi];obtain ⟨j,g,hj,ej,es⟩:=I.walk_tail C t ht i l hi;rw [ej];exact xV hj (es.trans hw)
 ·rw [qO,I.walk_head C i i h (Nat.le_refl _) hi,vA hi x0 x1];obtain ⟨k,f,hk,ek,er⟩:=I.ix_ok C hl;rw [ek];obtain ⟨j,g,hj,ej,es⟩:=I.walk_tail C t ht k f hk;rw [ej];have:=JS er t ht;obtain ⟨c,hc⟩:=ql.mp C.q f (qF.mpr ⟨f,List.mem_of_getElem? hk,.inl rfl⟩) t ht;rw [hc,hw] at this;refine xV hj ?_;rw [es,hc];simpa using this
theorem LI.valid (I:LI d kn heads tails) (C:y7 d kn heads tails) (h1:1≤d) (h6:d≤6) (h4:heads.length≤400):zA d (jR d kn heads tails) (jf kn heads) where
 row:=fun row hr=>by
  obtain ⟨h,hh,rfl⟩:=List.mem_map.mp hr;refine ⟨by rw [List.length_map,qJ];omega,fun x hx=>?_⟩;obtain ⟨l,hl,rfl⟩:=List.mem_map.mp hx;obtain ⟨j,hj,rfl⟩:=List.mem_map.mp hl;have:=List.mem_range.mp hj;obtain ⟨i,g,hi,ei,_⟩:=I.ix_ok C (z5 hh (x:=(j:Int)) (by omega) (by omega));rw [ei];have:=(List.getElem?_eq_some_iff.mp hi).1;unfold jR;rw [List.length_map];omega
 d1:=h1
 d6:=h6
 r1:=by unfold jR;rw [List.length_map];exact List.length_pos_of_mem I.mem0
 r400:=by unfold jR;rw [List.length_map];exact h4
 ll:=by unfold jR jf;rw [List.length_map,List.length_map]
theorem LI.more {kn':Bk} {tails':List (List Int)} (I:LI d kn heads tails) (C:y7 d kn heads tails) {w:List Int} (hw:jD d w) (I':LI d kn' heads tails') (C':y7 d kn' heads tails')
  (hk:∀ u b,saidO kn u=some b→saidO kn' u=some b) (ht:∀ t∈tails,t∈tails') (hb:saidO kn' w=some (!jW (jR d kn heads tails) (jf kn heads) w)):False:=by
 have eL:jf kn heads=jf kn' heads:=by
  unfold jf;refine List.map_congr_left fun h hh=>?_;obtain ⟨b,hb⟩:=ql.mp C.q h (qF.mpr ⟨h,hh,.inl rfl⟩) [] I.tmem0;rw [List.append_nil] at hb;rw [hb,hk _ _ hb]
 have eW:jR d kn heads tails=jR d kn' heads tails':=by
  unfold jR;refine List.map_congr_left fun h hh=>List.map_congr_left fun l hl=>?_;have hl':l∈jC d heads:=by
   obtain ⟨j,hj,rfl⟩:=List.mem_map.mp hl;have:=List.mem_range.mp hj;exact z5 hh (by omega) (by omega)
  obtain ⟨i,g,hi,ei,er⟩:=I'.ix_ok C' hl';rw [ei];refine I.ix_head hi ?_;unfold jQ;refine List.map_congr_left fun t htt=>?_;have e:=JS er t (ht t htt);obtain ⟨b,hb⟩:=ql.mp C.q g (qF.mpr ⟨g,List.mem_of_getElem? hi,.inl rfl⟩) t htt;obtain ⟨c,hc⟩:=ql.mp C.q l hl' t htt;rw [hk _ _ hb,hk _ _ hc] at e;rw [hb,hc];exact e
 have:=I'.says C' hb;rw [← eW,← eL] at this;generalize jW (jR d kn heads tails) (jf kn heads) w=z at this;cases z <;> simp at this
end
structure jv (d:Int) (kn:Bk) (heads tails:List (List Int)) (rows:List (List Bool)) (f:Nat):Prop where
 len:rows.length=(jC d heads).length
 row:∀ (k:Nat) r l,rows[k]?=some r→(jC d heads)[k]?=some l→r.length≤tails.length∧r.map some=(tails.take r.length).map fun t=>saidO kn (l++t)
 full:∀ (k:Nat) r,k < f→rows[k]?=some r→r.length=tails.length
 fle:f≤rows.length
section
variable {d:Int} {kn:Bk} {heads tails:List (List Int)} {rows:List (List Bool)} {f:Nat}
theorem vw {r:List Bool} {l:List Int} (h:r.map some=tails.map fun t=>saidO kn (l++t)):r=jQ kn tails l:=by
 unfold jQ;have:=congrArg (List.map fun o:Option Bool=>o.getD false) h;rw [List.map_map,List.map_map] at this;rw [← show r.map ((fun o:Option Bool=>o.getD false) ∘ some)=r by rw [show ((fun o:Option Bool=>o.getD false) ∘ some)=id from rfl,List.map_id]];exact this
theorem jv.full_gap (R:jv d kn heads tails rows f) {k:Nat} {r:List Bool} {l:List Int} (hr:rows[k]?=some r) (hl:(jC d heads)[k]?=some l) (he:r.length=tails.length):yG kn tails l=none∧r=jQ kn tails l:=by
 obtain ⟨_,h2⟩:=R.row k r l hr hl;rw [he,List.take_length] at h2;refine ⟨zB.mpr fun t ht=>?_,vw h2⟩;obtain ⟨i,hi⟩:=List.getElem?_of_mem ht;have e:=congrArg (fun z:List (Option Bool)=>z[i]?) h2;simp only [List.getElem?_map,hi,Option.map_some] at e;cases hri:r[i]? with
 | none=>rw [hri] at e;simp at e
 | some b=>rw [hri] at e;simp at e;exact ⟨b,e.symm⟩
theorem jv.all (R:jv d kn heads tails rows rows.length):jt d kn heads tails=none∧rows=(jC d heads).map (jQ kn tails):=by
 constructor
 ·unfold jt;rw [List.findSome?_eq_none_iff];intro l hl;obtain ⟨k,hk⟩:=List.getElem?_of_mem hl;have hk2:k < rows.length:=by rw [R.len];exact (List.getElem?_eq_some_iff.mp hk).1
  have hr:=List.getElem?_eq_getElem hk2;exact (R.full_gap hr hk (R.full k _ hk2 hr)).1
 ·apply List.ext_getElem
  ·rw [R.len,List.length_map]
  ·intro k h1 h2;rw [List.getElem_map];rw [List.length_map] at h2;have hr:=List.getElem?_eq_getElem h1;exact (R.full_gap hr (List.getElem?_eq_getElem h2) (R.full k _ h1 hr)).2
theorem jv.next (R:jv d kn heads tails rows f) {l w:List Int} (hl:(jC d heads)[f]?=some l) (hg:yG kn tails l=some w):jt d kn heads tails=some w:=by
 unfold jt;have hf:f < (jC d heads).length:=(List.getElem?_eq_some_iff.mp hl).1;have e:jC d heads=(jC d heads).take f++l :: (jC d heads).drop (f+1):=by
  conv=>lhs;rw [← List.take_append_drop f (jC d heads)]
  rw [List.drop_eq_getElem_cons hf];congr 2;rw [List.getElem?_eq_getElem hf] at hl;exact Option.some.inj hl
 rw [e,List.findSome?_append];have h0:((jC d heads).take f).findSome? (yG kn tails)=none:=by
  rw [List.findSome?_eq_none_iff];intro x hx;obtain ⟨k,hk⟩:=List.getElem?_of_mem hx;have hkf:k < f:=by
   have:=(List.getElem?_eq_some_iff.mp hk).1;rw [List.length_take] at this;omega
  rw [List.getElem?_take_of_lt hkf] at hk;have hk2:k < rows.length:=by rw [R.len];exact (List.getElem?_eq_some_iff.mp hk).1
  have hr:=List.getElem?_eq_getElem hk2;exact (R.full_gap hr hk (R.full k _ hkf hr)).1
 rw [h0];simp [hg]
theorem jv.set (R:jv d kn heads tails rows f) {k:Nat} {l:List Int} {r:List Bool} (hl:(jC d heads)[k]?=some l) (h1:r.length≤tails.length) (h2:r.map some=(tails.take r.length).map fun t=>saidO kn (l++t)) (h3:k < f→r.length=tails.length):jv d kn heads tails (rows.set k r) f where
 len:=by rw [List.length_set];exact R.len
 row:=fun j q l' e1 e2=>by
  by_cases hj:k=j
  ·subst hj;rw [List.getElem?_set_self (by rw [R.len];exact (List.getElem?_eq_some_iff.mp hl).1)] at e1;cases e1;rw [hl] at e2;cases e2;exact ⟨h1,h2⟩
  ·rw [List.getElem?_set_ne hj] at e1;exact R.row j q l' e1 e2
 full:=fun j q hj e=>by
  by_cases hk:k=j
  ·subst hk;have hlt:=(List.getElem?_eq_some_iff.mp e).1;rw [List.length_set] at hlt;rw [List.getElem?_set_self hlt] at e;cases e;exact h3 hj
  ·rw [List.getElem?_set_ne hk] at e;exact R.full j q hj e
 fle:=by rw [List.length_set];exact R.fle
theorem jv.succ (R:jv d kn heads tails rows f) (hf:f < rows.length) (h:∀ r,rows[f]?=some r→r.length=tails.length):jv d kn heads tails rows (f+1) :=
 ⟨R.len,R.row,fun k r hk e=>by
  by_cases hkf:k=f
  ·subst hkf;exact h r e
  ·exact R.full k r (by omega) e,hf⟩
theorem jv.note (R:jv d kn heads tails rows f) (w:List Int) (b:Bool):jv d (kn++[(w,b)]) heads tails rows f:=by
 refine ⟨R.len,fun k r l e1 e2=>?_,R.full,R.fle⟩;obtain ⟨h1,h2⟩:=R.row k r l e1 e2;refine ⟨h1,?_⟩;rw [h2];apply List.ext_getElem?;intro i;have e:=congrArg (fun z:List (Option Bool)=>z[i]?) h2;simp only [List.getElem?_map] at e ⊢;cases ht:(tails.take r.length)[i]? with
 | none=>rfl
 | some t =>
  rw [ht] at e;cases hr:r[i]? with
  | none=>rw [hr] at e;simp at e
  | some c =>
   rw [hr] at e;simp at e;simp only [Option.map_some];rw [← e,qd e.symm]
theorem jv.head (R:jv d kn heads tails rows f) (h:List Int):jv d kn (heads++[h]) tails (rows++List.replicate (d.toNat+1) []) f:=by
 refine ⟨?_,fun k r l e1 e2=>?_,fun k r hk e=>?_,?_⟩
 ·rw [yL,List.length_append,List.length_append,R.len,List.length_replicate,List.length_cons,qJ]
 ·rw [yL] at e2
  by_cases hk:k < rows.length
  ·rw [List.getElem?_append_left hk] at e1;rw [List.getElem?_append_left (by rw [← R.len];exact hk)] at e2;exact R.row k r l e1 e2
  ·rw [List.getElem?_append_right (by omega)] at e1;have:r=[]:=(List.mem_replicate.mp (List.mem_of_getElem? e1)).2;subst this;simp
 ·have:=R.fle;rw [List.getElem?_append_left (by omega)] at e;exact R.full k r hk e
 ·have:=R.fle;rw [List.length_append];omega
theorem jv.more (R:jv d kn heads tails rows f) (r':List (List Int)):jv d kn heads (tails++r') rows 0:=by
 refine ⟨R.len,fun k r l e1 e2=>?_,fun k r hk e=>by omega,Nat.zero_le _⟩;obtain ⟨h1,h2⟩:=R.row k r l e1 e2;refine ⟨by rw [List.length_append];omega,?_⟩;rw [List.take_append_of_le_length h1];exact h2
theorem kY {r:List Bool} {l:List Int} (h:r.map some=(tails.take r.length).map fun t=>saidO kn (l++t)):∀ t∈tails.take r.length,∃ b,saidO kn (l++t)=some b:=fun t ht=>by
 obtain ⟨i,hi⟩:=List.getElem?_of_mem ht;have e:=congrArg (fun z:List (Option Bool)=>z[i]?) h;simp only [List.getElem?_map,hi,Option.map_some] at e;cases hri:r[i]? with
 | none=>rw [hri] at e;simp at e
 | some b=>rw [hri] at e;simp at e;exact ⟨b,e.symm⟩
theorem UT {r:List Bool} {l t:List Int} (h:r.map some=(tails.take r.length).map fun t=>saidO kn (l++t)) (ht:tails[r.length]?=some t) (hn:saidO kn (l++t)=none):yG kn tails l=some (l++t):=by
 have hlt:r.length < tails.length:=(List.getElem?_eq_some_iff.mp ht).1;have e:tails=tails.take r.length++t :: tails.drop (r.length+1):=by
  conv=>lhs;rw [← List.take_append_drop r.length tails]
  rw [List.drop_eq_getElem_cons hlt];congr 2;rw [List.getElem?_eq_getElem hlt] at ht;exact Option.some.inj ht
 have h0:(tails.take r.length).find? (fun t=>(saidO kn (l++t)).isNone)=none:=by
  rw [List.find?_eq_none];intro u hu;obtain ⟨b,hb⟩:=kY h u hu;rw [hb];simp
 unfold yG;rw [e,List.find?_append,h0,List.find?_cons_of_pos (by rw [hn];rfl)];rfl
theorem Vo {r:List Bool} {l t:List Int} {b:Bool} (h:r.map some=(tails.take r.length).map fun t=>saidO kn (l++t)) (ht:tails[r.length]?=some t) (hb:saidO kn (l++t)=some b) :
  (r++[b]).length≤tails.length∧(r++[b]).map some=(tails.take (r++[b]).length).map fun t=>saidO kn (l++t):=by
 have hlt:r.length < tails.length:=(List.getElem?_eq_some_iff.mp ht).1;rw [List.length_append,List.length_singleton];refine ⟨hlt,?_⟩;rw [List.take_add_one,ht,List.map_append,List.map_append,h];simp [hb]
theorem Xn {r:List Bool} {l:List Int} (h:r.map some=(tails.take r.length).map fun t=>saidO kn (l++t)) (hl:r.length=tails.length):yG kn tails l=none∧r=jQ kn tails l:=by
 have hk:=kY h;rw [hl,List.take_length] at h hk;exact ⟨zB.mpr hk,vw h⟩
end
theorem JA (d:Int) (kn:Bk) (tails:List (List Int)):∀ (n:Nat) (hs:List (List Int)),∃ r,ya d kn tails n hs=hs++r
 | 0,hs=>⟨[],by simp [ya]⟩
 | n+1,hs=>by
  unfold ya
  split
  ·exact ⟨[],by simp⟩
  ·split
   ·exact ⟨[],by simp⟩
   ·obtain ⟨r,e⟩:=JA d kn tails n (hs++[_]);exact ⟨_ :: r,by rw [e,List.append_assoc];rfl⟩
theorem yp (d:Int) (kn:Bk) (tails hs:List (List Int)):∃ r,zQ d kn tails hs=hs++r:=JA d kn tails 400 hs
structure kG (d:Int) (kn:Bk) (heads tails:List (List Int)) (n:Nat):Prop where
 ex:∃ (kn0:Bk) (heads0 tails0:List (List Int)) (w0:List Int),LI d kn0 heads0 tails0∧y7 d kn0 heads0 tails0∧jD d w0∧heads0.length=n∧(∃ r,heads=heads0++r)∧(∀ u b,saidO kn0 u=some b→saidO kn u=some b)∧(∀ t∈tails0,t∈tails) ∧
  saidO kn w0=some (!jW (jR d kn0 heads0 tails0) (jf kn0 heads0) w0)
theorem kG.step {d:Int} {kn kn':Bk} {heads heads' tails tails':List (List Int)} {n:Nat} (T:kG d kn heads tails n) (h1:∃ r,heads'=heads++r) (h2:∀ u b,saidO kn u=some b→saidO kn' u=some b) (h3:∀ t∈tails,t∈tails'):kG d kn' heads' tails' n:=by
 obtain ⟨kn0,heads0,tails0,w0,a1,a2,a3,a4,⟨r,a5⟩,a6,a7,a8⟩:=T.ex;obtain ⟨r',e⟩:=h1;exact ⟨kn0,heads0,tails0,w0,a1,a2,a3,a4,⟨r++r',by rw [e,a5,List.append_assoc]⟩,fun u b h=>h2 u b (a6 u b h),fun t h=>h3 t (a7 t h),h2 _ _ a8⟩
theorem kG.more {d:Int} {kn:Bk} {heads tails:List (List Int)} {n:Nat} (T:kG d kn heads tails n) (I:LI d kn heads tails) (C:y7 d kn heads tails):n < heads.length:=by
 obtain ⟨kn0,heads0,tails0,w0,a1,a2,a3,a4,⟨r,a5⟩,a6,a7,a8⟩:=T.ex;refine Classical.byContradiction fun hc=>?_;have:r=[]:=List.eq_nil_of_length_eq_zero (by rw [a5,List.length_append] at hc;omega);rw [this,List.append_nil] at a5;subst a5;exact a1.more a2 a3 I C a6 a7 a8
theorem kG.new {d:Int} {kn:Bk} {heads tails:List (List Int)} (I:LI d kn heads tails) (C:y7 d kn heads tails) {w:List Int} (hw:jD d w) (hn:saidO kn w=none) {lit:Bool} (hl:jW (jR d kn heads tails) (jf kn heads) w=!lit):kG d (kn++[(w,lit)]) heads (yW tails w) heads.length :=
 ⟨kn,heads,tails,w,I,C,hw,rfl,⟨[],by simp⟩,fun u b h=>qd h,fun t h=>yN h,by rw [ZP hn,hl,Bool.not_not]⟩
theorem vf {d:Int} {kn:Bk} {heads tails:List (List Int)} (h:jt d kn heads tails≠none∨qB d kn heads tails=none) (hq:jt d kn heads tails=none):y7 d kn heads tails:=⟨hq,h.resolve_left fun z=>z hq⟩
end My
namespace L2
open PySem PySem.Spec PyProof.Rows
def z6 (b:Bool) (v:Value):Bool:=match v with
 | .bool c=>c == b
 | _=>false
theorem qh {b:Bool} {v:Value} (h:z6 b v=true):v=.bool b:=by cases v <;> simp_all [z6]
theorem Zg {prog:Program} {w:World} {A:Around} {E:Value→Shared→Prop} {s:Shared} {b:Bool} {Q:Int→Shared→Prop} (h:Q (reduceHash (if b then 1 else 0)) { s with toks:=s.toks+1 }):wpAny (model prog w) A (PySem.pyHash (.bool b)) Q E s:=by
 refine PySem.W.pyHash_slot (T:="bool") rfl F.slot_bool_hash entry_int_hash (args_int_hash _) (beq_builtin_none _) (.inl rfl) ?_;cases b
 ·exact (show wpAny _ _ (do ret (← mkInt 0)) _ _ s from wpAny_bind (wpAny_mkInt (wpAny_pure ⟨_,_,rfl,h⟩)))
 ·exact (show wpAny _ _ (do ret (← mkInt 1)) _ _ s from wpAny_bind (wpAny_mkInt (wpAny_pure ⟨_,_,rfl,h⟩)))
def Qd (prog:Program) (w:World):PySem.KeyKind prog w Bool where
 is:=z6
 hash:=fun b=>reduceHash (if b then 1 else 0)
 inj:=fun v a b ha hb=>by
  have h1:=qh ha;rw [qh hb] at h1
  injection h1 with h1
  exact h1.symm
 byValue:=fun k v h=>by rw [qh h];rfl
 pyHash:=fun hv h=>by rw [qh hv];exact Zg h
 eqBool:=fun {A E s a b u v Q} hu hv h=>by
  rw [qh hu,qh hv];refine SeqAt.EqAt.bool_bool a b _ _ _ _ ?_;have e:(a == b)=decide (a=b):=by cases a <;> cases b <;> rfl
  rw [e];exact h
 «strs»:=fun k x t v h=>by simp [z6] at h
theorem yB.u16 {k:Nat} {A:Around} (r:yB k A):A.units+16 < cLine:=by have:=r.un;omega
theorem yB.u80 {k:Nat} {A:Around} (r:yB k A):A.units+80 < cLine:=by have:=r.un;omega
structure KD (P:Program) (w:World) (κ:Type) [DecidableEq κ] where
 kd:HeapKind P w κ
 ok:Hp→κ→Addr→Prop
 is:∀ {H:Hp} {h:Heap} {k:κ} {a:Addr},HOk P w H h→ok H k a→kd.is h k a
 keep:∀ {H H':Hp} {k:κ} {a:Addr},(∀ b ys,H b=some (.tup ys)→H' b=some (.tup ys))→ok H k a→ok H' k a
 room:∀ {A:Around},A.units+16 < cLine→kd.room A.in1
section
variable {P:Program} {w:World} {κ:Type} [DecidableEq κ]
def zt (D:KD P w κ) (a:Addr) (xs:List (κ×Addr×Value)):Heap→Prop:=fun h=>∃ o es ep,h.get? a=some o∧o.ExactDict∧o.data=.dict es ep∧es.toList=xs.map (entryOfKey D.kd)∧(xs.map (·.1)).Nodup
abbrev KG (D:KD P w κ) (H:Hp):List (κ×V)→List (κ×Addr×Value)→Prop:=Paired fun p q=>p.1=q.1∧D.ok H q.1 q.2.1∧jr p.2 q.2.2
def DG (D:KD P w κ) (H:Hp) (a:Addr) (kvs:List (κ×V)):Prop:=∃ xs,H a=some (.ext (zt D a xs))∧KG D H kvs xs∧(a == sysModules)=false∧kvs.length≤sizeLine
theorem KG.val {D:KD P w κ} {H:Hp} {kvs:List (κ×V)} {xs:List (κ×Addr×Value)} (r:KG D H kvs xs) (k:κ):zF (yK kvs k) ((atKey xs k).map (·.2)):=by
 induction r with
 | nil=>exact True.intro
 | @cons p q ps qs h t ih =>
  obtain ⟨h1,_,h2⟩:=h
  by_cases e:p.1=k
  ·have e':q.1=k:=h1.symm.trans e;have b:atKey (q :: qs) k=some q.2:=by simp [atKey,List.find?_cons,e']
   rw [yU e,b];exact h2
  ·have e':¬ q.1=k:=fun z=>e (h1.trans z);have b:atKey (q :: qs) k=atKey qs k:=by simp [atKey,List.find?_cons,e']
   rw [yM e,b];exact ih
theorem KG.repl {D:KD P w κ} {H:Hp} {kvs:List (κ×V)} {xs:List (κ×Addr×Value)} (r:KG D H kvs xs) (k:κ) {y:V} {u:Value} (ry:jr y u) :
  KG D H (kvs.map fun kv=>if kv.1=k then (kv.1,y) else kv) (xs.map (putAt k u)):=by
 induction r with
 | nil=>exact .nil
 | @cons p q ps qs h t ih =>
  rw [List.map_cons,List.map_cons];refine .cons ?_ ih;obtain ⟨h1,h2,h3⟩:=h;unfold putAt
  by_cases e:p.1=k
  ·rw [if_pos e,if_pos (h1.symm.trans e)];exact ⟨h1,h2,ry⟩
  ·rw [if_neg e,if_neg (fun z=>e (h1.trans z))];exact ⟨h1,h2,h3⟩
theorem KG.put {D:KD P w κ} {H:Hp} {kvs:List (κ×V)} {xs:List (κ×Addr×Value)} (r:KG D H kvs xs) (k:κ) {b:Addr} {y:V} {u:Value} (hb:D.ok H k b) (ry:jr y u) :
  KG D H (yY kvs k y) (storedH xs k b u):=by
 have e:(kvs.any fun kv=>decide (kv.1=k))=(atKey xs k).isSome:=by
  rw [zd,(r.val k).isSome_eq,Option.isSome_map]
 unfold yY storedH;rw [e]
 by_cases q:(atKey xs k).isSome=true
 ·rw [if_pos q,if_pos q];exact r.repl k ry
 ·rw [if_neg q,if_neg q];exact Paired.snoc r ⟨rfl,hb,ry⟩
theorem KG.keeps {D:KD P w κ} {H H':Hp} {kvs:List (κ×V)} {xs:List (κ×Addr×Value)} (r:KG D H kvs xs) (ht:∀ b ys,H b=some (.tup ys)→H' b=some (.tup ys)):KG D H' kvs xs :=
 Paired.mapP r fun _ _ z=>⟨z.1,D.keep ht z.2.1,z.2.2⟩
theorem DG.same {D:KD P w κ} {H H':Hp} {a:Addr} {kvs:List (κ×V)} (e:j7 H H') (d:DG D H a kvs):DG D H' a kvs:=by
 obtain ⟨xs,h1,h2,h3⟩:=d;exact ⟨xs,e _ _ h1,h2.keeps fun b ys q=>e _ _ q,h3⟩
theorem DG.at {D:KD P w κ} {H:Hp} {h:Heap} {a:Addr} {kvs:List (κ×V)} {xs:List (κ×Addr×Value)} (ok:HOk P w H h) (h1:H a=some (.ext (zt D a xs))) (r:KG D H kvs xs):h.DictOfH D.kd a xs:=by
 obtain ⟨⟨o,es,ep,g1,g2,g3,g4,g5⟩,_⟩:=(show qM P w H h a (.ext (zt D a xs)) from ok a _ h1);refine ⟨o,es,ep,g1,g2,g3,g4,fun x hx=>?_,g5⟩;have all:∀ {l:List (κ×V)} {m:List (κ×Addr×Value)},KG D H l m→∀ x∈m,D.kd.is h x.1 x.2.1:=by
  intro l m q
  induction q with
  | nil=>intro x hx;exact nomatch hx
  | @cons p q ps qs hq t ih =>
   intro x hx;rcases List.mem_cons.mp hx with e | hx
   ·subst e;exact D.is ok hq.2.1
   ·exact ih x hx
 exact all r x hx
theorem Zx {D:KD P w κ} {a:Addr} {xs:List (κ×Addr×Value)} {h:Heap} (hh:zt D a xs h):zt D a xs h∧(∃ o,h.get? a=some o)∧∀ h1 h2:Heap,zt D a xs h1→(∀ o,h1.get? a=some o→h2.get? a=some o)→zt D a xs h2:=by
 refine ⟨hh,?_,fun h1 h2 x k=>?_⟩
 ·obtain ⟨o,_,_,e,_⟩:=hh;exact ⟨o,e⟩
 ·obtain ⟨o,es,ep,e,r⟩:=x;exact ⟨o,es,ep,k o e,r⟩
def Zm (D:KD P w κ):TE:=fun _ H Q=>∀ p,H p=none→DG D (upd H p (.ext (zt D p []))) p []→Q (.ref p) (upd H p (.ext (zt D p [])))
def Yo (D:KD P w κ) (ty td:TE):TE:=fun σ H Q=>ty σ H fun y H1=>td σ H1 fun x H2=>∃ a b k kvs,x=.ref a∧y=.ref b∧D.ok H2 k b∧DG D H2 a kvs∧Q (.bl (!(yK kvs k).isSome)) H2
def Ka (D:KD P w κ) (td ty:TE):TE:=fun σ H Q=>td σ H fun x H1=>ty σ H1 fun y H2=>∃ a b k kvs v,x=.ref a∧y=.ref b∧D.ok H2 k b∧DG D H2 a kvs∧yK kvs k=some v∧Q v H2
def Xu (D:KD P w κ) (td ty tv:TE):TS:=fun E σ H=>tv σ H fun v H1=>td σ H1 fun x H2=>ty σ H2 fun y H3=>∃ a b k kvs,x=.ref a∧y=.ref b∧D.ok H3 k b∧DG D H3 a kvs∧kvs.length < sizeLine ∧
 ∀ H4,(∀ c,c≠a→H4 c=H3 c)→DG D H4 a (yY kvs k v)→E.nx σ H4
section
variable {X:Cx} {o i value:Expr} {pos pos':Pos} {td ty tv:TE}
theorem Zu {P:Program} {w:World} (D:KD P w κ) {pos:Pos} (hP:X.prog=P:=by rfl) (hw:X.w=w:=by rfl):PE X (.Dict [] [] pos) (Zm D):=by
 subst hP hw;intro pins s σ H Q I h;have hn:=I.hok.fresh (Nat.le_refl s.heap.objs.size);have hs:(s.heap.objs.size == sysModules)=false:=beq_eq_false_iff_ne.mpr (Ne.symm (Nat.ne_of_lt I.big));refine wpAny_Dict_empty ⟨.ref s.heap.objs.size,_,I.laid (a:=s.heap.objs.size) (o:=.ext (zt D s.heap.objs.size [])) (t':=s.toks) (fun _ _ q=>Heap.get?_push_of_some _ q) (Nat.le_refl _) ?_,rfl,h _ hn ⟨[],j1,.nil,hs,Nat.zero_le _⟩⟩;exact Zx ⟨_,#[],0,Heap.get?_push_size _ rfl,⟨rfl,rfl,rfl⟩,rfl,rfl,List.nodup_nil⟩
theorem ZI {P:Program} {w:World} (D:KD P w κ) (hu:X.A.units+16 < cLine) (hi:PE X i ty) (ho:PE X o td) (hP:X.prog=P:=by rfl) (hw:X.w=w:=by rfl):PC X .NotIn i o (Yo D ty td):=by
 subst hP hw;intro pins s σ H Q I h;refine thn (hi pins s σ H _ I h) fun iv s1 ⟨y,H1,I1,ry,q1⟩=>thn (ho pins s1 σ H1 _ I1 q1) fun u s2 ⟨x,H2,I2,rx,a,b,k,kvs,ex,ey,hk,⟨xs,g1,g2,g3,_⟩,q2⟩=>?_;subst ex ey;cases rx;cases ry;refine wpAny_notIn_heap (D.room hu) (D.is I2.hok hk) g3 (DG.at I2.hok g1 g2) ?_;have e:=(g2.val k).isSome_eq;rw [Option.isSome_map] at e;rw [← e];exact ⟨.bl _,H2,I2.tok _,rfl,q2⟩
theorem Xb {P:Program} {w:World} (D:KD P w κ) (hu:X.A.units+16 < cLine) (ho:PE X o td) (hi:PE X i ty) (hs:Uj i) (hP:X.prog=P:=by rfl) (hw:X.w=w:=by rfl):PE X (.Subscript o i pos) (Ka D td ty):=by
 subst hP hw;intro pins s σ H Q I h;refine Ya PySem.F.slot_dict_getitem.lookup hs (thn (ho pins s σ H _ I h) fun u s1 ⟨x,H1,I1,rx,q1⟩=>thn (hi pins s1 σ H1 _ I1 q1) fun iv s2 ⟨y,H2,I2,ry,a,b,k,kvs,v,ex,ey,hk,⟨xs,g1,g2,g3,_⟩,l,q2⟩=>?_);subst ex ey;cases rx;cases ry;have dd:=DG.at I2.hok g1 g2;refine ⟨dd.typeIs,?_⟩;obtain ⟨w',hw',rw'⟩:=zF.some_of (v:=v) (o:=(atKey xs k).map (·.2)) (by rw [← l];exact g2.val k);obtain ⟨p,hp,hp2⟩:=Option.map_eq_some_iff.mp hw';refine wpAny_getItem_heap (D.room hu) (D.is I2.hok hk) dd hp ?_;rw [hp2];exact ⟨v,H2,I2.tok _,rw',q2⟩
theorem Xh {P:Program} {w:World} (D:KD P w κ) (hu:X.A.units+16 < cLine) (ho:PE X o td) (hi:PE X i ty) (hv:PE X value tv) (hs:swapsWith value (some (.Subscript o i pos')) pos.line X.env=pure false) (hP:X.prog=P:=by rfl) (hw:X.w=w:=by rfl) :
  PS X (.Assign [.Subscript o i pos'] value pos) (Xu D td ty tv):=by
 subst hP hw;intro pins s σ H E I h;refine wpAny_Assign_Subscript (thn (hv pins s σ H _ I h) fun r s1 ⟨v,H1,I1,rv,q1⟩=>thn (ho pins s1 σ H1 _ I1 q1) fun u s2 ⟨x,H2,I2,rx,q2⟩=>thn (hi pins s2 σ H2 _ I2 q2) fun iv s3 ⟨y,H3,I3,ry,a,b,k,kvs,ex,ey,hk,⟨xs,g1,g2,g3,g4⟩,hl,q3⟩=>?_) hs;subst ex ey;cases rx;cases ry;have dd:=DG.at I3.hok g1 g2;have hz:xs.length≤sizeLine:=by rw [← Paired.length g2];exact g4
 have hl':(yY kvs k v).length≤sizeLine:=by have:=yu kvs k v;omega
 refine wpAny_setItem_heap (hsz:=hz) (D.room hu) (D.is I3.hok hk) dd fun h' dd' hs=>?_;obtain ⟨q,es,ep,hq,h2,h3,h4,_,h5⟩:=dd';have nt:∀ c ys,H3 c=some (.tup ys)→(upd H3 a (.ext (zt D a (storedH xs k b r)))) c=some (.tup ys):=fun c ys ec=>by
  rw [j5 (vR ec g1 (fun z=>nomatch z))];exact ec
 have I4:=vP (t':=s3.toks+D.kd.draws k) (ob:=.ext (zt D a (storedH xs k b r))) I3 (by rw [g1];exact True.intro) hs ⟨q,hq⟩ (Zx ⟨q,es,ep,hq,h2,h3,h4,h5⟩);exact ⟨σ,_,I4,q3 _ (fun c hc=>j5 hc) ⟨_,j1,(g2.put k hk rv).keeps nt,g3,hl'⟩⟩
end
end
theorem Ql {P:Program} {w:World}:∀ {ks:List Bool} {us:List Value},jw (ks.map V.bl) us→ItemsAre (Qd P w) ks us
 | [],_,r=>by rw [List.map_nil] at r;cases r;exact .nil
 | k :: ks,_,r=>by
  rw [List.map_cons] at r;cases r with
  | cons h t =>
   cases h;exact .cons (by show z6 k (.bool k)=true;simp [z6]) (Ql t)
def Qg (P:Program) (w:World):KD P w (List Bool) where
 kd:=tupleKind (Qd P w)
 ok:=fun H k a=>H a=some (.tup (k.map V.bl))
 is:=fun {H h k a} ok e=>by
  obtain ⟨_,its,r,o,h1,h2,n,h3⟩:=(show qM P w H h a (.tup (k.map V.bl)) from ok a _ e);exact ⟨o,its.toArray,n,h1,h2,h3,by simpa using Ql r⟩
 keep:=fun ht e=>ht _ _ e
 room:=fun {A} hu=>tupleKind_room_in1 (by omega)
theorem YZ:∀ ns ms:List Bool,PyData.eqvAll (ns.map PyData.bool) (ms.map PyData.bool)=decide (ns=ms)
 | [],[]=>by simp [PyData.eqvAll]
 | [],_ :: _=>by simp [PyData.eqvAll]
 | _ :: _,[]=>by simp [PyData.eqvAll]
 | a :: r,b :: t=>by
  have:=YZ r t;cases a <;> cases b <;> simp [PyData.eqvAll,PyData.eqv,this]
theorem Jt (K:PySem.W.Frag) (H:Hp):∀ ns:List Bool,Dts K H (ns.map V.bl) (ns.map PyData.bool)
 | []=>.nil
 | b :: r=>.cons (.bl b) (Jt K H r)
theorem Yg:∀ ns:List Bool,PyData.canLayAll0 (ns.map PyData.bool)=true
 | []=>rfl
 | _ :: r=>by simp [PyData.canLayAll0,PyData.canLay0,Yg r]
theorem km:∀ ns:List Bool,PyData.depthAll (ns.map PyData.bool)=0
 | []=>rfl
 | _ :: r=>by simp [PyData.depthAll,PyData.depth,km r]
theorem xx (ns:List Bool):SeqAt.shaped (.list (ns.map PyData.bool))=true:=by
 simp [SeqAt.shaped,PyData.canLay0,PyData.depth,Yg,km]
section
variable {X:Cx} {pins:List (Addr×Obj)} {σ:St} {H:Hp} {s:Shared}
theorem ZQ (I:Inv X pins σ H s) (hu:X.A.units+80 < cLine) {a b:Addr} {ns ms:List Int} (ha:SqL X.K H a (ns.map V.int)) (hb:SqL X.K H b (ms.map V.int)):SeqAt.EqAt X.A.in1 s (.ref a) (.ref b) (decide (ns=ms)):=by
 obtain ⟨its,rv,p,_⟩:=I.list ha;obtain ⟨its',rv',p',_⟩:=I.list hb;exact PySem.W.keq_ints p.isList (zT rv) p'.isList (zT rv') (by show X.A.units+1+64 < cLine;omega)
theorem Qo (I:Inv X pins σ H s) (hu:X.A.units+80 < cLine) {a b:Addr} {ns ms:List Bool} (ha:SqL X.K H a (ns.map V.bl)) (hb:SqL X.K H b (ms.map V.bl)):SeqAt.EqAt X.A.in1 s (.ref a) (.ref b) (decide (ns=ms)):=by
 obtain ⟨as,r1⟩:=(Dt.lst ha (Jt X.K H ns)).reads I (u:=.ref a) rfl;obtain ⟨bs,r2⟩:=(Dt.lst hb (Jt X.K H ms)).reads I (u:=.ref b) rfl;have x:=PySem.W.keq_at (A:=X.A) r1 r2 (xx ns) (xx ms) (by show X.A.units+1+64 < cLine;omega);have e:PyData.eqv (.list (ns.map PyData.bool)) (.list (ms.map PyData.bool))=decide (ns=ms):=by
  rw [← YZ];simp [PyData.eqv]
 rw [e] at x;exact x
end
structure LsAt {α:Type} (f:α→V) (H:Hp) (as:List Addr) (ws:List (List α)):Prop where
 len:as.length=ws.length
 row:∀ (i:Nat) a w,as[i]?=some a→ws[i]?=some w→H a=some (.lst (w.map f))
def xF {α:Type} [DecidableEq α] (f:α→V) (H:Hp) (x:List α) (u:Value):Bool:=match u with
 | .ref a=>(match H a with
  | some (.lst xs)=>decide (xs=x.map f)
  | _=>false)
 | _=>false
theorem Ys {α:Type} {f:α→V} (hf:∀ a b,f a=f b→a=b):∀ {x y:List α},x.map f=y.map f→x=y
 | [],[],_=>rfl
 | [],_ :: _,h=>by simp at h
 | _ :: _,[],h=>by simp at h
 | a :: x,b :: y,h=>by
  simp only [List.map_cons,List.cons.injEq] at h;rw [hf _ _ h.1,Ys hf h.2]
theorem JN {α:Type} [DecidableEq α] {f:α→V} (hf:∀ a b,f a=f b→a=b) {H:Hp} {x w:List α} {a:Addr} (h:H a=some (.lst (w.map f))):xF f H x (.ref a)=decide (w=x):=by
 unfold xF;simp only [h]
 by_cases e:w=x
 ·subst e;simp
 ·rw [decide_eq_false e];exact decide_eq_false fun z=>e (Ys hf z)
theorem LsAt.any {α:Type} [DecidableEq α] {f:α→V} (hf:∀ a b,f a=f b→a=b) {H:Hp} (x:List α):∀ {as:List Addr} {ws:List (List α)},LsAt f H as ws→(as.map Value.ref).any (xF f H x)=decide (x∈ws)
 | [],[],_=>by simp
 | [],_ :: _,l=>by have:=l.len;simp at this
 | _ :: _,[],l=>by have:=l.len;simp at this
 | a :: as,w :: ws,l=>by
  have h0:=l.row 0 a w rfl rfl;have lr:LsAt f H as ws:=⟨by have:=l.len;simpa using this,fun i b v h1 h2=>l.row (i+1) b v (by simpa using h1) (by simpa using h2)⟩;rw [List.map_cons,List.any_cons,JN hf h0,LsAt.any hf x lr]
  by_cases e:w=x
  ·subst e;simp
  ·have:¬ x=w:=fun z=>e z.symm;simp [e,this]
theorem LsAt.mem {α:Type} {f:α→V} {H:Hp} {as:List Addr} {ws:List (List α)} (l:LsAt f H as ws) {a:Addr} (h:a∈as):∃ w∈ws,H a=some (.lst (w.map f)):=by
 obtain ⟨i,hi⟩:=List.getElem?_of_mem h;have hl:i < ws.length:=by rw [← l.len];exact (List.getElem?_eq_some_iff.mp hi).1
 exact ⟨_,List.getElem_mem hl,l.row i a _ hi (List.getElem?_eq_getElem hl)⟩
def X4 (K:PySem.W.Frag) {α:Type} [DecidableEq α] (f:α→V) (neg:Bool):R2:=fun x y H Q=>∃ (b p:Addr) (w:List α) (as:List Addr) (ws:List (List α)),x=.ref b∧y=.ref p∧SqL K H b (w.map f)∧SqL K H p (as.map V.ref)∧LsAt f H as ws∧Q (.bl (if neg then !decide (w∈ws) else decide (w∈ws))) H
def XG (K:PySem.W.Frag) {α:Type} [DecidableEq α] (f:α→V):V→List V→Hp→VK→Prop:=fun x vs H Q=>∃ (p b:Addr) (w:List α) (as:List Addr) (ws:List (List α)),x=.ref p∧vs=[.ref b]∧SqL K H b (w.map f)∧SqL K H p (as.map V.ref)∧LsAt f H as ws∧w∈ws∧Q (.int ((ws.findIdx fun r=>decide (r=w):Nat):Int)) H
section
variable {X:Cx}
theorem Z0 {α:Type} [DecidableEq α] {f:α→V} (hf:∀ a b,f a=f b→a=b)
  (heq:∀ {pins:List (Addr×Obj)} {σ:St} {H:Hp} {s:Shared} {a b:Addr} {ns ms:List α},Inv X pins σ H s→SqL X.K H a (ns.map f)→SqL X.K H b (ms.map f)→SeqAt.EqAt X.A.in1 s (.ref a) (.ref b) (decide (ns=ms))) :
  OpR X (compareOp .In) (X4 X.K f false)∧OpR X (compareOp .NotIn) (X4 X.K f true):=by
 have hits:∀ {pins:List (Addr×Obj)} {σ:St} {H:Hp} {s:Shared} {b:Addr} {w:List α} {as:List Addr} {ws:List (List α)},Inv X pins σ H s→SqL X.K H b (w.map f)→LsAt f H as ws→∀ y∈as.map Value.ref,SeqAt.EqAt X.A.in1 s y (.ref b) (xF f H w y):=by
  intro pins σ H s b w as ws I hb l y hy;obtain ⟨a,ha,rfl⟩:=List.mem_map.mp hy;obtain ⟨v,_,hv⟩:=l.mem ha;rw [JN hf hv];exact heq I (SqL.of hv) hb
 constructor
 ·intro pins s σ H x y v u Q I rx ry h;obtain ⟨b,p,w,as,ws,rfl,rfl,hb,hp,l,q⟩:=h;cases rx;cases ry;obtain ⟨its,r,pl,hz⟩:=I.list hp;rw [zk r] at pl;refine SeqAt.in_listAt (xF f H w) pl.isList (fun y hy=>hits I hb l y (by simpa using hy)) ⟨.bl _,H,I,rfl,?_⟩;rw [show ((as.map Value.ref).toArray.any (xF f H w))=(as.map Value.ref).any (xF f H w) by simp,l.any hf];exact q
 ·intro pins s σ H x y v u Q I rx ry h;obtain ⟨b,p,w,as,ws,rfl,rfl,hb,hp,l,q⟩:=h;cases rx;cases ry;obtain ⟨its,r,pl,hz⟩:=I.list hp;rw [zk r] at pl;refine SeqAt.notIn_listAt (xF f H w) pl.isList (fun y hy=>hits I hb l y (by simpa using hy)) ⟨.bl _,H,I,rfl,?_⟩;rw [show ((as.map Value.ref).toArray.any (xF f H w))=(as.map Value.ref).any (xF f H w) by simp,l.any hf];exact q
theorem xM (K:PySem.W.Frag) (hu:X.A.units+80 < cLine) (hK:X.K=K:=by rfl):OpR X (compareOp .NotIn) (X4 K V.int true):=by
 subst hK;exact (Z0 (fun a b h=>by injection h) fun I ha hb=>ZQ I hu ha hb).2
theorem YM (K:PySem.W.Frag) (hu:X.A.units+80 < cLine) (hK:X.K=K:=by rfl):OpR X (compareOp .NotIn) (X4 K V.bl true):=by
 subst hK;exact (Z0 (fun a b h=>by injection h) fun I ha hb=>Qo I hu ha hb).2
theorem ZG (K:PySem.W.Frag) (hu:X.A.units+80 < cLine) (hK:X.K=K:=by rfl):MtR X "list.index" (XG K V.bl):=by
 subst hK;intro pins s σ H x vs v us Q I rx rv h;obtain ⟨p,b,w,as,ws,rfl,rfl,hb,hp,l,hm,q⟩:=h;cases rx;obtain ⟨u,rfl,ru⟩:=xj rv;cases ru;obtain ⟨its,r,pl,hz⟩:=I.list hp;rw [zk r] at pl;obtain ⟨⟨cls,dd,data,sl⟩,ho,hc,n,hd⟩:=id pl.isList;simp only at hc hd;subst hc hd;have hf:∀ a b:Bool,V.bl a=V.bl b→a=b:=fun a b h=>by injection h
 have hj:ws.findIdx (fun r=>decide (r=w)) < ws.length:=List.findIdx_lt_length_of_exists ⟨w,hm,by simp⟩;have hja:ws.findIdx (fun r=>decide (r=w)) < as.length:=by rw [l.len];exact hj
 have hz':as.length≤sizeLine:=by rw [List.length_map] at hz;exact hz
 have hat:∀ (m:Nat) (hm:m < as.length) (hm2:m < ws.length),xF V.bl H w (.ref as[m])=decide (ws[m]=w):=fun m hm hm2=>JN hf (l.row m _ _ (List.getElem?_eq_getElem hm) (List.getElem?_eq_getElem hm2));refine call_meetsIn PySem.F.slot_list_index ⟨_,ho,rfl⟩ PySem.F.entry_list_index (PySem.F.args_list_index_2 _ _) ((SeqAt.list_indexAt p ((as.map Value.ref).toArray) n dd sl (.ref b) (xF V.bl H w) (ws.findIdx fun r=>decide (r=w)) (by simpa using hja) (by
  have:sizeLine=16777216:=by decide
  omega) ?_ ?_) X.prog X.w) ⟨ho,fun y hy=>?_,?_⟩
 ·have:=hat _ hja hj;simp only [List.getElem_toArray,List.getElem_map];rw [this];exact List.findIdx_getElem (w:=hj)
 ·intro m hm2 hlt;have h1:m < as.length:=by simpa using hm2
  have h2:m < ws.length:=by rw [← l.len];exact h1
  simp only [List.getElem_toArray,List.getElem_map];rw [hat m h1 h2];have:=List.not_of_lt_findIdx hlt;simpa using this
 ·have hy':y∈as.map Value.ref:=by simpa using hy
  obtain ⟨a,ha,rfl⟩:=List.mem_map.mp hy';obtain ⟨v,_,hv⟩:=l.mem ha;rw [JN hf hv];exact Qo I hu (SqL.of hv) hb
 ·exact ⟨.int _,H,I.tok _,⟨_,rfl⟩,q⟩
end
def zx {α:Type} (xs:List α) (n:Nat):List α:=(List.range ((xs.length+n - 1) / n)).filterMap fun k=>xs[n * k]?
theorem vY {xs:List V} {us:List Value} (r:jw xs us):∀ ks:List Nat,jw (ks.filterMap fun k=>xs[k]?) (ks.filterMap fun k=>us[k]?)
 | []=>.nil
 | k :: ks=>by
  cases hx:xs[k]? with
  | none =>
   have hu:=r.none_of hx;rw [List.filterMap_cons_none hx,List.filterMap_cons_none hu];exact vY r ks
  | some x =>
   obtain ⟨u,hu,ru⟩:=r.get hx;rw [List.filterMap_cons_some hx,List.filterMap_cons_some hu];exact .cons ru (vY r ks)
theorem vo {α:Type} (xs:List α) (n:Nat):zx xs n=((List.range ((xs.length+n - 1) / n)).map fun k=>n * k).filterMap fun k=>xs[k]?:=by
 unfold zx;rw [List.filterMap_map];rfl
theorem Z9 (its:List Value) {n:Nat} (hn:0 < n):slicePick its.toArray none none (some (n:Int))=(zx its n).toArray:=by
 have hb:sliceBounds none none (some (n:Int)) its.toArray.size=(0,(its.length:Int),(n:Int)):=by
  unfold sliceBounds;have h:((n:Int) > 0):=by omega
  simp only [Option.getD_some,if_pos h,List.size_toArray]
 unfold slicePick;rw [hb];have hr:sliceRange 0 (its.length:Int) (n:Int)=(List.range ((its.length+n - 1) / n)).map fun k=>n * k:=by
  unfold sliceRange;have h:((n:Int) > 0):=by omega
  simp only [h,if_true];have hc:(if (0:Int) < (its.length:Int) then ((its.length:Int) - 0+(n:Int) - 1) / (n:Int) else 0).toNat=(its.length+n - 1) / n:=by
   by_cases h0:its.length=0
   ·rw [h0];simp only [Nat.zero_add];rw [if_neg (by simp),Nat.div_eq_of_lt (by omega)];rfl
   ·rw [if_pos (by omega)];have e:(its.length:Int) - 0+(n:Int) - 1=((its.length+n - 1:Nat):Int):=by omega
    rw [e,← Int.natCast_ediv,Int.toNat_natCast]
  rw [hc];refine List.map_congr_left fun k _=>?_;have e:(0:Int)+(n:Int) * (k:Int)=((n * k:Nat):Int):=by rw [Int.natCast_mul];omega
  rw [e,Int.toNat_natCast]
 rw [hr,vo];congr 1;congr 1
 funext k
 simp
theorem zy {α β:Type} {f:α→Option β} {g:α→β}:∀ {l:List α},(∀ x∈l,f x=some (g x))→l.filterMap f=l.map g
 | [],_=>rfl
 | a :: l,h=>by
  rw [List.filterMap_cons_some (h a List.mem_cons_self),List.map_cons,zy fun x hx=>h x (List.mem_cons_of_mem _ hx)]
theorem ZF {α:Type} [Inhabited α] {xs:List α} {n m:Nat} (hn:0 < n) (hl:xs.length=m * n):zx xs n=(List.range m).map fun k=>xs.getD (n * k) default:=by
 unfold zx;have hc:(xs.length+n - 1) / n=m:=by
  rw [hl];have:m * n+n - 1=(n - 1)+m * n:=by omega
  rw [this,Nat.add_mul_div_right _ _ hn,Nat.div_eq_of_lt (by omega),Nat.zero_add]
 rw [hc];refine zy fun k hk=>?_;have hk':=List.mem_range.mp hk;have hlt:n * k < xs.length:=by
  rw [hl,Nat.mul_comm m n];exact Nat.mul_lt_mul_of_pos_left hk' hn
 rw [List.getD_eq_getElem?_getD,List.getElem?_eq_getElem hlt];rfl
def WV (K:PySem.W.Frag) (te ts:TE):TE:=fun σ H Q=>te σ H fun x H1=>ts σ H1 fun y H2=>∃ (a:Addr) (xs:List V) (n:Nat),x=.ref a∧y=.int (n:Int)∧0 < n∧SqL K H2 a xs∧∀ p,H2 p=none→Q (.ref p) (upd H2 p (.lst (zx xs n)))
theorem ZD {α:Type} (xs:List α) (n:Nat):(zx xs n).length≤(xs.length+n - 1) / n:=by
 unfold zx;exact Nat.le_trans (List.length_filterMap_le _ _) (by rw [List.length_range];exact Nat.le_refl _)
section
variable {X:Cx}
theorem ZU (K:PySem.W.Frag) {e st:Expr} {te ts:TE} {p2 pos:Pos} (he:PE X e te) (hst:PE X st ts) (hK:X.K=K:=by rfl):PE X (.Subscript e (.Slice none none (some st) p2) pos) (WV K te ts):=by
 subst hK;intro pins s σ H Q I h;refine Subscript_ (thn (he pins s σ H _ I h) fun v s1 ⟨x,H1,I1,r1,q1⟩=>?_);refine wpAny_Slice ?_;rw [evalPart_none];refine wpAny_pure (wpAny_pure ?_);rw [evalPart_some];refine thn (hst pins s1 σ H1 _ I1 q1) fun vs s3 ⟨y,H3,I3,r3,a,xs,n,ex,ey,hn,hx,q3⟩=>?_;subst ex ey;cases r1;obtain ⟨tk,rfl⟩:=r3;have I4:Inv X pins σ H3 { s3 with heap:=s3.heap.push { cls:=.type "slice",data:=.fields #[.none,.none,.int (n:Int) tk] } }:=I3.kept (t':=s3.toks) fun b ob q=>Heap.get?_push_of_some _ q;obtain ⟨its,r,ht,hz⟩:=I4.list hx;have hlen:=r.length;show wpAny (model X.prog X.w) X.A (subscriptTail e (.Slice none none (some st) p2) (.ref a) (.ref s3.heap.objs.size)) (EP X pins σ Q) X.xe { s3 with heap:=s3.heap.push { cls:=.type "slice",data:=.fields #[.none,.none,.int (n:Int) tk] } };refine tail_any (ops:=[.ref a,.ref s3.heap.objs.size]) ht.isList.typeIs slot_list_getitem.lookup ?_ (by with_unfolding_all rfl);refine wpAny_getItem_list_slice ht.isList (Heap.IsSliceOf.new ..) .none .none (.int (n:Int) tk) (by intro z;injection z with z;omega) ?_ (by rw [List.size_toArray];omega);rw [Z9 _ hn];refine ⟨.ref _,_,I4.laid (t':=s3.toks) (o:=.lst (zx xs n)) (fun b ob q=>Heap.get?_push_of_some _ q) (Nat.le_refl _) ?_,rfl,q3 _ (I4.hok.fresh (Nat.le_refl _))⟩;refine ⟨Nat.le_trans (ZD xs n) (Nat.le_trans ?_ hz),_,0,?_,Heap.get?_push_size _ rfl⟩
 ·by_cases h0:xs.length=0
  ·rw [h0,Nat.div_eq_of_lt (by omega)];exact Nat.le_refl _
  ·refine Nat.div_le_of_le_mul ?_;have:xs.length+n - 1≤n * xs.length:=by
    have h1:1≤xs.length:=by omega
    obtain ⟨m,hm⟩:∃ m,xs.length=m+1:=⟨xs.length - 1,by omega⟩;rw [hm,Nat.mul_succ];have:m≤n * m:=Nat.le_mul_of_pos_left m hn;omega
   exact this
 ·rw [vo,vo,hlen];exact vY r _
end
section
variable {σ:St} {H:Hp} {Q:VK} {te ts ty td tv:TE} {E:Ends}
theorem wQ {K:PySem.W.Frag} (h:te σ H fun x H1=>ts σ H1 fun y H2=>∃ (a:Addr) (xs:List V) (n:Nat),x=.ref a∧y=.int (n:Int)∧0 < n∧SqL K H2 a xs∧∀ p,H2 p=none→Q (.ref p) (upd H2 p (.lst (zx xs n)))):WV K te ts σ H Q:=h
variable {P:Program} {w:World} {κ:Type} [DecidableEq κ] {D:KD P w κ}
theorem Xl (h:∀ p,H p=none→DG D (upd H p (.ext (zt D p []))) p []→Q (.ref p) (upd H p (.ext (zt D p [])))):Zm D σ H Q:=h
theorem Zw (h:ty σ H fun y H1=>td σ H1 fun x H2=>∃ a b k kvs,x=.ref a∧y=.ref b∧D.ok H2 k b∧DG D H2 a kvs∧Q (.bl (!(yK kvs k).isSome)) H2):Yo D ty td σ H Q:=h
theorem Kt (h:td σ H fun x H1=>ty σ H1 fun y H2=>∃ a b k kvs v,x=.ref a∧y=.ref b∧D.ok H2 k b∧DG D H2 a kvs∧yK kvs k=some v∧Q v H2):Ka D td ty σ H Q:=h
theorem Ko (h:tv σ H fun v H1=>td σ H1 fun x H2=>ty σ H2 fun y H3=>∃ a b k kvs,x=.ref a∧y=.ref b∧D.ok H3 k b∧DG D H3 a kvs∧kvs.length < sizeLine ∧
 ∀ H4,(∀ c,c≠a→H4 c=H3 c)→DG D H4 a (yY kvs k v)→E.nx σ H4):Xu D td ty tv E σ H:=h
theorem Z3 {K:PySem.W.Frag} {ta:TE} {rd:V→V→Hp→VK→Prop} {f:Str} (h:ta σ H fun x H1=>∃ a C dx fs v,x=.ref a∧H1 a=some (.ins C dx fs)∧Cls K C∧qW K C f∧fs.lookup f=some v ∧
 tv σ H1 fun y H2=>rd v y H2 fun z H3=>∃ dx' fs',H3 a=some (.ins C dx' fs')∧fs'.length < 1000∧E.nx σ (upd H3 a (.ins C dx' (jo f z fs')))):Jv K ta tv rd f E σ H:=h
end
section
variable {X:Cx}
theorem Y3 (K:PySem.W.Frag) {o value:Expr} {f:Str} {pos tpos:Pos} {ta tv:TE} {op:Operator} {rd:V→V→Hp→VK→Prop} (ha:PE X o ta) (hv:PE X value tv) (hop:Ug X op rd) (hK:X.K=K:=by rfl):PS X (.AugAssign (.Attribute o f tpos) op value pos) (Jv K ta tv rd f):=by subst hK;exact ZA ha hv hop
end
theorem VQ {X:Cx} {op:CmpOp} {r:R2} {a b:Expr} {ta tb:TE} (h:OpR X (compareOp op) r) (ha:PE X a ta) (hb:PE X b tb):PC X op a b (tOp r ta tb):=by
 intro pins s σ H Q I hw;refine thn (ha pins s σ H _ I hw) fun u s1 ⟨x,H1,I1,rx,q1⟩=>thn (hb pins s1 σ H1 _ I1 q1) fun v s2 ⟨y,H2,I2,ry,q2⟩=>?_;exact h pins s2 σ H2 x y u v Q I2 rx ry q2
end L2
namespace My
theorem Xa {α β:Type} {f:α→Option β} {l:List α} {k:Nat} {x:α} {w:β} (h0:∀ y∈l.take k,f y=none) (hx:l[k]?=some x) (hf:f x=some w):l.findSome? f=some w:=by
 have hk:k < l.length:=(List.getElem?_eq_some_iff.mp hx).1;have e:l=l.take k++x :: l.drop (k+1):=by
  conv=>lhs;rw [← List.take_append_drop k l]
  rw [List.drop_eq_getElem_cons hk];congr 2;rw [List.getElem?_eq_getElem hk] at hx;exact Option.some.inj hx
 rw [e,List.findSome?_append];have h1:(l.take k).findSome? f=none:=by rw [List.findSome?_eq_none_iff];exact h0
 rw [h1];simp [hf]
theorem Qq {d:Int} {heads:List (List Int)} {i:Nat} {h:List Int} (hi:heads[i]?=some h):jC d heads=jC d (heads.take i)++((h :: jT d h)++jC d (heads.drop (i+1))):=by
 have hk:i < heads.length:=(List.getElem?_eq_some_iff.mp hi).1;have e:heads=heads.take i++h :: heads.drop (i+1):=by
  conv=>lhs;rw [← List.take_append_drop i heads]
  rw [List.drop_eq_getElem_cons hk];congr 2;rw [List.getElem?_eq_getElem hk] at hi;exact Option.some.inj hi
 conv=>lhs;rw [e]
 unfold jC;rw [List.flatMap_append,List.flatMap_cons]
theorem X0 {d:Int} {kn:Bk} {heads tails:List (List Int)} {i j:Nat} {h l w:List Int} (hi:heads[i]?=some h) (hj:(h :: jT d h)[j]?=some l) (h1:∀ x∈jC d (heads.take i),yG kn tails x=none) (h2:∀ x∈(h :: jT d h).take j,yG kn tails x=none) (hg:yG kn tails l=some w):jt d kn heads tails=some w:=by
 unfold jt;rw [Qq hi,List.findSome?_append,List.findSome?_append];have e1:(jC d (heads.take i)).findSome? (yG kn tails)=none:=by rw [List.findSome?_eq_none_iff];exact h1
 rw [e1,Xa h2 hj hg];rfl
theorem Zh {kn:Bk} {tails:List (List Int)} {l t:List Int} {m:Nat} (h:∀ u∈tails.take m,∃ b,saidO kn (l++u)=some b) (ht:tails[m]?=some t) (hn:saidO kn (l++t)=none):yG kn tails l=some (l++t):=by
 have hlt:m < tails.length:=(List.getElem?_eq_some_iff.mp ht).1;have e:tails=tails.take m++t :: tails.drop (m+1):=by
  conv=>lhs;rw [← List.take_append_drop m tails]
  rw [List.drop_eq_getElem_cons hlt];congr 2;rw [List.getElem?_eq_getElem hlt] at ht;exact Option.some.inj ht
 have h0:(tails.take m).find? (fun t=>(saidO kn (l++t)).isNone)=none:=by
  rw [List.find?_eq_none];intro u hu;obtain ⟨b,hb⟩:=h u hu;rw [hb];simp
 unfold yG;rw [e,List.find?_append,h0,List.find?_cons_of_pos (by rw [hn];rfl)];rfl
theorem xc (d:Int) (P:List Int→Bool):∀ hs:List (List Int),(∀ h∈hs,P h=false)→(jC d hs).find? P=((hs.flatMap (jT d)).filter P).head?
 | [],_=>rfl
 | h :: r,hp=>by
  have ih:=xc d P r fun x hx=>hp x (List.mem_cons_of_mem _ hx);show ((h :: jT d h)++jC d r).find? P=_;rw [List.find?_append,List.find?_cons_of_neg (by rw [hp h List.mem_cons_self];simp),ih,List.flatMap_cons,List.filter_append,List.head?_append];simp only [List.head?_filter]
theorem QI {d:Int} {kn:Bk} {heads tails:List (List Int)}:qB d kn heads tails=((heads.flatMap (jT d)).filter fun l=>!decide (jQ kn tails l∈jN kn heads tails)).head? :=
 xc d _ heads fun h hh=>by
  have:jQ kn tails h∈jN kn heads tails:=List.mem_map.mpr ⟨h,hh,rfl⟩;simp [this]
end My
namespace My
def qz (d:Int) (rss:List (List Int)) (ls:List Bool) (a b:Int):Prop:=∀ v,jD d v→jh ls (jF rss a v)=jh ls (jF rss b v)
theorem qz.symm {d:Int} {rss:List (List Int)} {ls:List Bool} {a b:Int} (h:qz d rss ls a b):qz d rss ls b a:=fun v hv=>(h v hv).symm
theorem qz.trans {d:Int} {rss:List (List Int)} {ls:List Bool} {a b c:Int} (h:qz d rss ls a b) (g:qz d rss ls b c):qz d rss ls a c:=fun v hv=>(h v hv).trans (g v hv)
structure zZ (d:Int) (rss:List (List Int)) (ls:List Bool) (kept:List Int):Prop where
 rc:∀ k∈kept,∃ w,jD d w∧jF rss 0 w=k
 dis:kept.Pairwise fun a b=>¬ qz d rss ls a b
 cov:∀ w,jD d w→∃ k∈kept,qz d rss ls k (jF rss 0 w)
def v5 (rss:List (List Int)) (ls:List Bool) (kn:Bk):Prop:=∀ w b,saidO kn w=some b→jW rss ls w=b
theorem v5.start (rss:List (List Int)) (ls:List Bool):v5 rss ls []:=fun w b h=>by simp [saidO] at h
theorem v5.add {rss:List (List Int)} {ls:List Bool} {kn:Bk} (F:v5 rss ls kn) (w:List Int):v5 rss ls (kn++[(w,jW rss ls w)]):=fun u b h=>by
 rw [zR] at h;cases hk:saidO kn u with
 | some c=>rw [hk] at h;exact F u b (by rw [hk];exact h)
 | none =>
  rw [hk] at h
  by_cases e:w=u
  ·rw [if_pos e] at h;subst e;simpa using h
  ·rw [if_neg e] at h;cases h
theorem vI (rss:List (List Int)) (ls:List Bool) (u v:List Int):jW rss ls (u++v)=jh ls (jF rss (jF rss 0 u) v):=by
 unfold jW jh;rw [kZ]
theorem vm {α β:Type} {f:α→β}:∀ {l:List α},(∀ (i j:Nat) a b,i < j→l[i]?=some a→l[j]?=some b→f a≠f b)→(l.map f).Nodup
 | [],_=>by simp
 | a :: l,h=>by
  rw [List.map_cons];refine List.nodup_cons.mpr ⟨fun z=>?_,vm fun i j x y hij h1 h2=>h (i+1) (j+1) x y (by omega) (by simpa using h1) (by simpa using h2)⟩;obtain ⟨b,hb,e⟩:=List.mem_map.mp z;obtain ⟨j,hj⟩:=List.getElem?_of_mem hb;exact h 0 (j+1) a b (by omega) rfl (by simpa using hj) e.symm
theorem LI.heads_le {d:Int} {kn:Bk} {heads tails:List (List Int)} {rss:List (List Int)} {ls:List Bool} {kept:List Int} (I:LI d kn heads tails) (F:v5 rss ls kn) (Kd:zZ d rss ls kept):heads.length≤kept.length:=by
 have ch:∀ h:List Int,∃ k:Int,h∈heads→k∈kept∧qz d rss ls k (jF rss 0 h):=fun h=>by
  by_cases hh:h∈heads
  ·obtain ⟨k,hk,ha⟩:=Kd.cov h (I.hok h hh);exact ⟨k,fun _=>⟨hk,ha⟩⟩
  ·exact ⟨0,fun z=>absurd z hh⟩
 obtain ⟨f,hf⟩:=Classical.axiomOfChoice ch;have nd:(heads.map f).Nodup:=vm fun i j g h hij h1 h2 e=>by
  obtain ⟨t,ht,b,e1,e2⟩:=I.dis i j g h hij h1 h2;have a1:=(hf g (List.mem_of_getElem? h1)).2;have a2:=(hf h (List.mem_of_getElem? h2)).2;rw [← e] at a2;have a3:=(a1.symm.trans a2) t (I.tok t ht);have l1:=F _ _ e1;have l2:=F _ _ e2;rw [vI] at l1 l2;rw [l1,l2] at a3;cases b <;> simp at a3
 have:=zH nd fun k hk=>by
  obtain ⟨h,hh,rfl⟩:=List.mem_map.mp hk;exact (hf h hh).1
 rw [List.length_map] at this;exact this
theorem ZO {n:Nat} {l:List Int} (hn:l.Nodup) (h:∀ x∈l,0≤x∧x < (n:Int)):l.length≤n:=by
 have:=zH (m:=(List.range n).map fun (i:Nat)=>(i:Int)) hn fun x hx=>by
  obtain ⟨h0,h1⟩:=h x hx;exact List.mem_map.mpr ⟨x.toNat,List.mem_range.mpr (by omega),by omega⟩
 simpa using this
theorem zZ.le {d:Int} {rss rss2:List (List Int)} {ls ls2:List Bool} {kept:List Int} (Kd:zZ d rss ls kept) (W:Ways d rss2) (h0:0 < rss2.length) (eq:∀ w,jD d w→jW rss ls w=jW rss2 ls2 w):kept.length≤rss2.length:=by
 have ch:∀ k:Int,∃ w:List Int,k∈kept→jD d w∧jF rss 0 w=k:=fun k=>by
  by_cases hk:k∈kept
  ·obtain ⟨w,hw⟩:=Kd.rc k hk;exact ⟨w,fun _=>hw⟩
  ·exact ⟨[],fun z=>absurd z hk⟩
 obtain ⟨f,hf⟩:=Classical.axiomOfChoice ch;have nd:(kept.map fun k=>jF rss2 0 (f k)).Nodup:=vm fun i j a b hij h1 h2 e=>by
  obtain ⟨w1,e1⟩:=hf a (List.mem_of_getElem? h1);obtain ⟨w2,e2⟩:=hf b (List.mem_of_getElem? h2);obtain ⟨hi,g1⟩:=List.getElem?_eq_some_iff.mp h1;obtain ⟨hj,g2⟩:=List.getElem?_eq_some_iff.mp h2;have:=List.pairwise_iff_getElem.mp Kd.dis i j hi hj hij;rw [g1,g2] at this;refine this fun v hv=>?_;rw [← e1,← e2,← vI,← vI,eq _ (vK w1 hv),eq _ (vK w2 hv),vI,vI,e]
 have:=ZO nd fun x hx=>by
  obtain ⟨k,hk,rfl⟩:=List.mem_map.mp hx;exact q0 W (hf k hk).1 (Int.le_refl 0) (by omega)
 rw [List.length_map] at this;exact this
theorem zZ.rooms {d:Int} {rss:List (List Int)} {ls:List Bool} {kept:List Int} (Kd:zZ d rss ls kept) (W:Ways d rss) (h0:0 < rss.length):kept.length≤rss.length:=Kd.le W h0 fun _ _=>rfl
theorem LI.known {d:Int} {kn:Bk} {heads tails:List (List Int)} (I:LI d kn heads tails) (hn:(kn.map Prod.fst).Nodup):kn.length≤(jC d heads).length * tails.length:=by
 have:=zH (m:=(jC d heads).flatMap fun l=>tails.map fun t=>l++t) hn fun w hw=>by
  obtain ⟨x,hx,rfl⟩:=List.mem_map.mp hw;obtain ⟨i,hi⟩:=List.getElem?_of_mem hx;have:∃ b,saidO kn x.1=some b:=by
   unfold saidO;cases e:kn.find? fun kv=>decide (kv.1=x.1) with
   | none =>
    rw [List.find?_eq_none] at e;exact absurd (decide_eq_true rfl) (e x hx)
   | some y=>exact ⟨_,rfl⟩
  obtain ⟨b,hb⟩:=this;obtain ⟨l,hl,t,ht,e⟩:=I.src _ _ hb;exact List.mem_flatMap.mpr ⟨l,hl,List.mem_map.mpr ⟨t,ht,e.symm⟩⟩
 rw [List.length_map,List.length_flatMap] at this;have hc:∀ L:List (List Int),(L.map fun l=>(tails.map fun t=>l++t).length).sum=L.length * tails.length:=fun L=>by
  induction L with
  | nil=>simp
  | cons a L ih=>rw [List.map_cons,List.sum_cons,ih,List.length_map,List.length_cons,Nat.succ_mul];omega
 rw [hc] at this;exact this
section
variable {κ:Type} [DecidableEq κ]
structure Ut (st:κ→Int→κ) (lam:κ→Bool) (d:Int) (m:Nat) (U l:List κ):Prop where
 sub:∀ x∈l,x∈U
 dis:l.Pairwise fun a b=>∃ v,jD d v∧v.length≤m∧lam (jm st a v)≠lam (jm st b v)
theorem ZL {st:κ→Int→κ} {lam:κ→Bool} {d:Int} {m:Nat} {U l:List κ} (R:Ut st lam d m U l) {a b:κ} (ha:a∈U) (hb:b∈U) {v:List Int} (hv:jD d v) (hl:v.length=m+1) (hp:lam (jm st a v)≠lam (jm st b v))
  (hs:∀ u,jD d u→u.length≤m→lam (jm st a u)=lam (jm st b u)):∃ l',l'.length=l.length+1∧Ut st lam d (m+1) U l':=by
 have up:∀ x y:κ,(∃ v,jD d v∧v.length≤m∧lam (jm st x v)≠lam (jm st y v))→∃ v,jD d v∧v.length≤m+1∧lam (jm st x v)≠lam (jm st y v):=fun x y ⟨v,h1,h2,h3⟩=>⟨v,h1,by omega,h3⟩
 by_cases hc:∀ r∈l,∃ v,jD d v∧v.length≤m∧lam (jm st a v)≠lam (jm st r v)
 ·refine ⟨a :: l,rfl,fun x hx=>?_,List.pairwise_cons.mpr ⟨fun r hr=>up _ _ (hc r hr),R.dis.imp fun {x y} h=>up x y h⟩⟩;rcases List.mem_cons.mp hx with rfl | hx
  ·exact ha
  ·exact R.sub x hx
 ·have hc:∃ r,r∈l∧∀ v,jD d v→v.length≤m→lam (jm st a v)=lam (jm st r v):=by
   refine Classical.byContradiction fun z=>hc fun r hr=>Classical.byContradiction fun y=>z ⟨r,hr,fun v h1 h2=>Classical.byContradiction fun x=>y ⟨v,h1,h2,x⟩⟩
  obtain ⟨r,hr,heq⟩:=hc;have e:∃ l1 l2,l=l1++r :: l2:=List.append_of_mem hr;obtain ⟨l1,l2,rfl⟩:=e;have hd:=R.dis;rw [List.pairwise_append,List.pairwise_cons] at hd;obtain ⟨d1,⟨d2,d3⟩,d4⟩:=hd;have far:∀ x:κ,(∃ v,jD d v∧v.length≤m∧lam (jm st r v)≠lam (jm st x v))→(∃ v,jD d v∧v.length≤m+1∧lam (jm st a v)≠lam (jm st x v))∧∃ v,jD d v∧v.length≤m+1∧lam (jm st b v)≠lam (jm st x v):=fun x ⟨u,h1,h2,h3⟩=>⟨⟨u,h1,by omega,by rw [heq u h1 h2];exact h3⟩,⟨u,h1,by omega,by rw [← hs u h1 h2,heq u h1 h2];exact h3⟩⟩;refine ⟨l1++a :: b :: l2,by simp;omega,fun x hx=>?_,?_⟩
  ·rcases List.mem_append.mp hx with hx | hx
   ·exact R.sub x (List.mem_append_left _ hx)
   ·rcases List.mem_cons.mp hx with rfl | hx
    ·exact ha
    ·rcases List.mem_cons.mp hx with rfl | hx
     ·exact hb
     ·exact R.sub x (List.mem_append_right _ (List.mem_cons_of_mem _ hx))
  ·rw [List.pairwise_append,List.pairwise_cons,List.pairwise_cons];refine ⟨d1.imp fun {x y} h=>up x y h,⟨fun x hx=>?_,fun x hx=>(far x (d2 x hx)).2,d3.imp fun {x y} h=>up x y h⟩,fun x hx y hy=>?_⟩
   ·rcases List.mem_cons.mp hx with rfl | hx
    ·exact ⟨v,hv,by omega,hp⟩
    ·exact (far x (d2 x hx)).1
   ·have hxr:=d4 x hx r List.mem_cons_self;obtain ⟨u,h1,h2,h3⟩:=hxr;have hf:=far x ⟨u,h1,h2,fun z=>h3 z.symm⟩;rcases List.mem_cons.mp hy with rfl | hy
    ·obtain ⟨u',g1,g2,g3⟩:=hf.1;exact ⟨u',g1,g2,fun z=>g3 z.symm⟩
    ·rcases List.mem_cons.mp hy with rfl | hy
     ·obtain ⟨u',g1,g2,g3⟩:=hf.2;exact ⟨u',g1,g2,fun z=>g3 z.symm⟩
     ·exact up x y (d4 x hx y (List.mem_cons_of_mem _ hy))
theorem zl (st:κ→Int→κ) (k:κ) (u v:List Int):jm st k (u++v)=jm st (jm st k u) v:=by unfold jm;rw [List.foldl_append]
theorem WA {st:κ→Int→κ} {lam:κ→Bool} {d:Int} {U:List κ} (cl:∀ x∈U,∀ w,jD d w→jm st x w∈U) {a b:κ} (ha:a∈U) (hb:b∈U) {w:List Int} (hw:jD d w) (hp:lam (jm st a w)≠lam (jm st b w))
  (hs:∀ u,jD d u→u.length < w.length→lam (jm st a u)=lam (jm st b u)):w.length+2≤U.length:=by
 have wok:∀ n,jD d (w.drop n)∧jD d (w.take n):=fun n=>⟨fun x hx=>hw x (List.mem_of_mem_drop hx),fun x hx=>hw x (List.mem_of_mem_take hx)⟩;have part:∀ n,n≤w.length→∃ x y,x∈U∧y∈U∧(∃ v,jD d v∧v.length=n∧lam (jm st x v)≠lam (jm st y v))∧∀ u,jD d u→u.length < n→lam (jm st x u)=lam (jm st y u):=fun n hn=>by
  refine ⟨jm st a (w.take (w.length - n)),jm st b (w.take (w.length - n)),cl a ha _ (wok _).2,cl b hb _ (wok _).2,⟨w.drop (w.length - n),(wok _).1,by rw [List.length_drop];omega,?_⟩,fun u hu hul=>?_⟩
  ·rw [← zl,← zl,List.take_append_drop];exact hp
  ·rw [← zl,← zl];refine hs _ (vK (wok _).2 hu) ?_;rw [List.length_append,List.length_take];omega
 have main:∀ n,n≤w.length→∃ l,l.length=n+2∧Ut st lam d n U l:=fun n=>by
  induction n with
  | zero =>
   intro _;obtain ⟨x,y,hx,hy,⟨v,v1,v2,v3⟩,_⟩:=part 0 (Nat.zero_le _);refine ⟨[x,y],rfl,fun z hz=>?_,?_⟩
   ·rcases List.mem_cons.mp hz with rfl | hz
    ·exact hx
    ·rw [List.mem_singleton.mp hz];exact hy
   ·simp only [List.pairwise_cons,List.mem_singleton,List.not_mem_nil,false_implies,implies_true,List.Pairwise.nil,and_true]
    rintro z rfl
    exact ⟨v,v1,by omega,v3⟩
  | succ n ih =>
   intro hn;obtain ⟨l,hl,R⟩:=ih (by omega);obtain ⟨x,y,hx,hy,⟨v,v1,v2,v3⟩,h4⟩:=part (n+1) hn;obtain ⟨l',hl',R'⟩:=ZL R hx hy v1 v2 v3 (fun u hu hul=>h4 u hu (by omega));exact ⟨l',by omega,R'⟩
 obtain ⟨l,hl,R⟩:=main w.length (Nat.le_refl _);have nd:l.Nodup:=by
  rw [List.nodup_iff_pairwise_ne];exact R.dis.imp fun {x y} ⟨v,_,_,h⟩ e=>h (by rw [e])
 have:=zH nd R.sub;omega
end
def stS (rss rss2:List (List Int)):Int ⊕ Int→Int→Int ⊕ Int
 | .inl q,x=>.inl (step rss q x)
 | .inr q,x=>.inr (step rss2 q x)
def j0t (ls ls2:List Bool):Int ⊕ Int→Bool
 | .inl q=>jh ls q
 | .inr q=>jh ls2 q
theorem Jz (rss rss2:List (List Int)) (w:List Int):∀ q:Int,jm (stS rss rss2) (.inl q) w=.inl (jF rss q w):=by
 unfold jm jF
 induction w with
 | nil=>intro q;rfl
 | cons x w ih=>intro q;exact ih (step rss q x)
theorem Q2 (rss rss2:List (List Int)) (w:List Int):∀ q:Int,jm (stS rss rss2) (.inr q) w=.inr (jF rss2 q w):=by
 unfold jm jF
 induction w with
 | nil=>intro q;rfl
 | cons x w ih=>intro q;exact ih (step rss2 q x)
theorem xY {d:Int} {rss rss2:List (List Int)} {ls ls2:List Bool} {a b:Int} {w:List Int} (W:Ways d rss) (W2:Ways d rss2) (a0:0≤a) (a1:a < rss.length) (b0:0≤b) (b1:b < rss2.length) (hw:jD d w) (hp:jh ls (jF rss a w)≠jh ls2 (jF rss2 b w))
  (hs:∀ u,jD d u→u.length < w.length→jh ls (jF rss a u)=jh ls2 (jF rss2 b u)):w.length+2≤rss.length+rss2.length:=by
 have mem:∀ (n:Nat) (q:Int),0≤q→q < n→q∈(List.range n).map fun (i:Nat)=>(i:Int):=fun n q h0 h1=>List.mem_map.mpr ⟨q.toNat,List.mem_range.mpr (by omega),by omega⟩;have inv:∀ (n:Nat) (q:Int),q∈((List.range n).map fun (i:Nat)=>(i:Int))→0≤q∧q < n:=fun n q h=>by
  obtain ⟨i,hi,rfl⟩:=List.mem_map.mp h;have:=List.mem_range.mp hi;omega
 have key:=WA (st:=stS rss rss2) (lam:=j0t ls ls2) (d:=d) (U:=(((List.range rss.length).map fun (i:Nat)=>(i:Int)).map Sum.inl)++(((List.range rss2.length).map fun (i:Nat)=>(i:Int)).map Sum.inr)) (a:=.inl a) (b:=.inr b) (w:=w) (fun x hx v hv=>?_)
  (List.mem_append_left _ (List.mem_map.mpr ⟨a,mem _ a a0 a1,rfl⟩)) (List.mem_append_right _ (List.mem_map.mpr ⟨b,mem _ b b0 b1,rfl⟩)) hw (by rw [Jz,Q2];exact hp) (fun u hu hul=>by rw [Jz,Q2];exact hs u hu hul)
 ·simpa using key
 ·rcases List.mem_append.mp hx with hx | hx
  ·obtain ⟨q,hq,rfl⟩:=List.mem_map.mp hx;obtain ⟨h0,h1⟩:=inv _ q hq;rw [Jz];obtain ⟨g0,g1⟩:=q0 W hv h0 h1;exact List.mem_append_left _ (List.mem_map.mpr ⟨_,mem _ _ g0 g1,rfl⟩)
  ·obtain ⟨q,hq,rfl⟩:=List.mem_map.mp hx;obtain ⟨h0,h1⟩:=inv _ q hq;rw [Q2];obtain ⟨g0,g1⟩:=q0 W2 hv h0 h1;exact List.mem_append_right _ (List.mem_map.mpr ⟨_,mem _ _ g0 g1,rfl⟩)
end My
namespace L2
open PySem PySem.Spec PyProof.Rows
theorem xB {P:Program} {w:World} {κ:Type} [DecidableEq κ] (knd:HeapKind P w κ) (d:Addr) (hd:(d == sysModules)=false):MeetsIn P w (PySem.Builtin.«dict.__len__» { pos:=[.ref d] }) fun x R s=>∃ xs,s.heap.DictOfH knd d xs∧R (Except.ok (Flow.ret (.int (xs.length:Nat) s.toks))) { heap:=s.heap,gens:=s.gens,drawn:=s.drawn,toks:=s.toks+1,os:=s.os } :=
 PySem.MeetsIn.of_wp fun A R s x=>by
  obtain ⟨xs,⟨o,es,ep,ho,hc,hdat,hk,hp,hn⟩,h⟩:=x;have e:es.size=xs.length:=by
   rw [← Array.length_toList,hk,List.length_map]
  show wpAny _ _ (do let n ← dictSize d;let m ← Builtin.Dict.pendingCount d;retInt ((n:Int)+(m:Int))) _ _ _;refine wpAny_bind (wpAny_bind (wpAny_dictEntries ho hdat (wpAny_pure (wpAny_bind (wpAny_pendingCount_other hd (wpAny_ret_mkInt ?_))))));rw [e];simpa using h
theorem Zc {P:Program} {w:World} {κ:Type} [DecidableEq κ] {knd:HeapKind P w κ} {A:Around} {E:Value→Shared→Prop} {s:Shared} {d:Addr} {xs:List (κ×Addr×Value)} {Q:Value→Shared→Prop} (hd:(d == sysModules)=false) (hm:s.heap.DictOfH knd d xs) (hfit:((xs.length:Nat):Int) < 2 ^ 63)
  (h:Q (.int (xs.length:Nat) (s.toks+1)) { heap:=s.heap,gens:=s.gens,drawn:=s.drawn,toks:=s.toks+1+1,os:=s.os }) :
  wpAny (model P w) A (PySem.Builtin.len { pos:=[.ref d] }) (fun fin s'=>∃ r,fin=Fin.done (Flow.ret r)∧Q r s') E s:=by
 refine wpAny_bind (wpAny_pure (wpAny_bind (wpAny_callSpecial?_slot hm.typeIs PySem.F.slot_dict_len (call_meetsIn PySem.F.slot_dict_len hm.typeIs PySem.F.entry_dict_len (PySem.F.args_dict_len_1 (.ref d)) (xB knd d hd) ⟨xs,hm,?_⟩))));show wpAny _ _ _ _ _ _;refine wpAny_bind (wpAny_holding (wpAny_pure (wpAny_bind (wpAny_letGo ?_))));have h1:¬ (((xs.length:Nat):Int) < 0):=by omega
 have h2:¬ ((2:Int) ^ 63≤((xs.length:Nat):Int)):=by omega
 show wpAny _ _ _ _ _ _;rw [if_neg (by omega)];show wpAny _ _ _ _ _ _;rw [if_neg (by omega)];exact wpAny_bind (wpAny_mkInt (wpAny_pure ⟨_,rfl,h⟩))
theorem ZN {X:Cx}:zC X (.builtin "len") (fun xs H Q=>∃ a kvs,xs=[V.ref a]∧H a=some (.dT kvs)∧Q (.int kvs.length) H):=by
 intro pins s σ H xs us Q I r h;obtain ⟨a,kvs,rfl,ha,q⟩:=h;obtain ⟨u,rfl,ru⟩:=xj r;cases ru;obtain ⟨z,hd,vs,rel,dd⟩:=VA I.hok ha;refine Calls.call_function_entry PySem.kind_len PySem.plain_len PySem.entry_len (PySem.args_len1 (Value.ref a)) (Zc hd dd (by rw [← rel.length];rw [sizeLine_eq] at z;omega) ?_);rw [← rel.length];exact ⟨.int kvs.length,H,I.tok _,⟨_,rfl⟩,q⟩
end L2
namespace L2
open PySem PySem.Spec PyProof.Rows
section
variable {prog:Program} {w:World} {A:Around} {E:Value→Shared→Prop} {s:Shared} {it d:Addr} {i ep:Nat} {es:Array DictEntry} {od:Obj}
end
section
variable {X:Cx}
end
section
variable {σ:St} {H:Hp} {tl:TE}
end
end L2
set_option maxHeartbeats 1000000
namespace My
open PySem L2 PyProof.Rows
def top (i:Nat):Stmt:=PySem.Challenge.pw_askhouse_k19_whole_lessons.main.body.getD i (.Pass ⟨0,0,0,0⟩)
abbrev Jy:Stmt:=top 13
abbrev JL:Stmt:=top 14
abbrev Jg:Stmt:=top 15
abbrev kM:Stmt:=qN (top 16) 0
abbrev QJ:Stmt:=qN (top 16) 1
abbrev Jp:Stmt:=qN (top 16) 2
abbrev QO:Stmt:=qN (top 16) 3
abbrev QC:Stmt:=qN (top 16) 4
abbrev Ju:Stmt:=top 18
abbrev JY:Stmt:=top 19
abbrev JT:Stmt:=top 20
abbrev JR:Stmt:=top 21
abbrev Jd:Stmt:=top 23
abbrev kP:Stmt:=top 24
abbrev JO:Stmt:=qN (top 26) 0
abbrev Jl:Stmt:=qN (top 26) 3
abbrev Q4:Stmt:=qN (top 26) 1
abbrev Q3:Stmt:=qN (top 26) 2
abbrev JV:Stmt:=qN (top 28) 1
abbrev Jh:Stmt:=qN (top 28) 0
abbrev Js:Stmt:=qN (top 28) 3
abbrev Jj:Stmt:=qN (top 28) 2
abbrev QD:Stmt:=qN (top 28) 7
abbrev JW:Stmt:=qN (top 28) 6
abbrev JI:Stmt:=qN (top 28) 5
abbrev Je:Stmt:=qN (top 28) 4
abbrev kD:Stmt:=qN (top 28) 8
abbrev Jm:Stmt:=qN (top 28) 10
abbrev QA:Stmt:=qN (top 28) 9
abbrev Q9:Stmt:=top 30
abbrev QP:Stmt:=top 31
abbrev Jb:Stmt:=top 33
abbrev Ji:Stmt:=top 34
abbrev kS:Stmt:=top 35
abbrev kL:Stmt:=top 36
abbrev Jc:Stmt:=top 37
abbrev Q1:Stmt:=top 38
abbrev QG:Stmt:=top 39
abbrev Q5:Stmt:=top 40
abbrev Q8:Stmt:=top 41
abbrev Q0:Stmt:=top 42
abbrev QH:Stmt:=top 43
abbrev Q6:Stmt:=top 44
abbrev kO:Stmt:=top 45
abbrev kN:Stmt:=top 46
abbrev kH:Stmt:=top 47
abbrev kI:Stmt:=top 48
abbrev xA:Stmt:=top 49
abbrev QE:Stmt:=top 50
abbrev vQ:Stmt:=top 51
local macro_rules | `(tactic| walk_at "sx")=>`(tactic| first
 | with_reducible refine wZ ?_ | with_reducible refine WK ?_ | with_reducible refine XO ?_ | with_reducible refine Kn ?_ | with_reducible refine U9 ?_ | with_reducible refine WU ?_ | with_reducible refine j0F ?_
 | ((with_reducible refine Wu (v:=?v) ?e ?_);(case e=>exact rfl))
 | with_reducible refine r_C ?_ | with_reducible refine j0n ?_ | with_reducible refine j1G ?_ | with_reducible refine U8 ?_ | with_reducible refine j1H ?_ | with_reducible refine j0k ?_
 | with_reducible refine W8 ?_ | with_reducible refine j1L ?_ | with_reducible refine wo ?_ | with_reducible refine U3 ?_ | with_reducible refine r_orV ?_ | with_reducible refine UK ?_ | with_reducible refine X6 ?_
 | with_reducible refine Kz ?_ | with_reducible refine j1E ?_ | with_reducible refine Kv ?_ | with_reducible refine Wa ?_ | with_reducible refine Ub ?_ | with_reducible refine j0O ?_ | with_reducible refine Wp ?_
 | with_reducible refine Ws ?_ | with_reducible refine UM ?_ | with_reducible refine Kx ?_ | with_reducible refine XL ?_ | with_reducible refine Xd ?_ | with_reducible refine Us ?_ | with_reducible refine UL ?_ | with_reducible refine j1N ?_ | with_reducible refine UV ?_ | with_reducible refine Kr ?_ | with_reducible refine UY ?_
 | with_reducible refine j0z ?_ | with_reducible refine r_U ?_
 | ((with_reducible refine r_I ?c ?_);(case c=>first | (show (0:Int) < _;first | assumption | decide | omega) | exact ⟨by decide,by decide⟩ | exact Or.inl ⟨by decide,by decide⟩ | exact Or.inr ⟨by decide,by decide⟩))
 | with_reducible refine Vw ?_ | with_reducible refine VR ?_ | with_reducible refine UX ?_ | with_reducible refine UQ ?_ | with_reducible refine Uf ?_ | with_reducible refine r_try ?_
 | with_reducible refine r_bm0 ?_ | with_reducible refine Ud ?_ | with_reducible refine r_din ?_ | with_reducible refine V8 ?_ | with_reducible refine Ua ?_ | with_reducible refine r_dnew ?_ | with_reducible refine j0p ?_ | with_reducible refine VD ?_ | with_reducible refine Ul ?_
 | with_reducible refine Xg ?_ | with_reducible refine j0G ?_ | with_reducible refine XY ?_ | with_reducible refine r_ifE ?_ | with_reducible refine r_tryN ?_ | with_reducible refine r_iitemsK ?_ | with_reducible refine r_tryA ?_ | with_reducible refine r_thaw ?_ | with_reducible refine r_iitems ?_ | with_reducible refine XJ ?_ | with_reducible refine Xi ?_
 | with_reducible refine wQ ?_ | with_reducible refine Xl ?_ | with_reducible refine r_gin ?_ | with_reducible refine Zw ?_ | with_reducible refine Kt ?_ | with_reducible refine Ko ?_ | with_reducible refine Z3 ?_
 | with_reducible refine r_snx ?_ | with_reducible refine r_srt ?_
 | with_reducible refine j0o ?_ | with_reducible refine j0u ?_)
local macro_rules | `(tactic| walk_at "w")=>`(tactic| (repeat walk_at "sx"))
theorem zf {α:Type} {us:List α} (h:us.length=1):∃ a0,us=[a0]:=List.length_eq_one_iff.mp h
theorem y4 {α:Type} {us:List α} (h:us.length=2):∃ a0 a1,us=[a0,a1]:=by
 cases us with
 | nil=>simp at h
 | cons a0 r =>
  obtain ⟨a1,e⟩:=zf (us:=r) (by simpa using h);exact ⟨a0,a1,by rw [e]⟩
theorem zX {α:Type} {us:List α} (h:us.length=3):∃ a0 a1 a2,us=[a0,a1,a2]:=by
 cases us with
 | nil=>simp at h
 | cons a0 r =>
  obtain ⟨a1,a2,e⟩:=y4 (us:=r) (by simpa using h);exact ⟨a0,a1,a2,by rw [e]⟩
theorem xp {α:Type} {us:List α} (h:us.length=4):∃ a0 a1 a2 a3,us=[a0,a1,a2,a3]:=by
 cases us with
 | nil=>simp at h
 | cons a0 r =>
  obtain ⟨a1,a2,a3,e⟩:=zX (us:=r) (by simpa using h);exact ⟨a0,a1,a2,a3,by rw [e]⟩
theorem We {α:Type} {us:List α} (h:us.length=5):∃ a0 a1 a2 a3 a4,us=[a0,a1,a2,a3,a4]:=by
 cases us with
 | nil=>simp at h
 | cons a0 r =>
  obtain ⟨a1,a2,a3,a4,e⟩:=xp (us:=r) (by simpa using h);exact ⟨a0,a1,a2,a3,a4,by rw [e]⟩
theorem j0H {α:Type} {us:List α} (h:us.length=6):∃ a0 a1 a2 a3 a4 a5,us=[a0,a1,a2,a3,a4,a5]:=by
 cases us with
 | nil=>simp at h
 | cons a0 r =>
  obtain ⟨a1,a2,a3,a4,a5,e⟩:=We (us:=r) (by simpa using h);exact ⟨a0,a1,a2,a3,a4,a5,by rw [e]⟩
theorem W4 (K:PySem.W.Frag):PySem.W.kitOne K (.type "int") (.type "bool")=some false:=by
  first
  | rfl
  | (show (if (Value.type "int" == Value.type "bool")=true then some true else if PySem.W.kitMeta "bool"=true then PySem.W.subIn K (.type "int") (.type "bool") else Option.none)=some false
     rw [if_neg (by decide +kernel),if_pos (by decide +kernel)]
     first | rfl | decide +kernel | (unfold PySem.W.subIn;rfl))
structure Mat (H:Hp) (a:Addr) (rs:List Addr) (rss:List (List Int)):Prop where
 top:H a=some (.lst (rs.map V.ref))
 len:rs.length=rss.length
 row:∀ (i:Nat) (r:Addr) (row:List Int),rs[i]?=some r→rss[i]?=some row→H r=some (.lst (row.map V.int))
 nd:(a :: rs).Nodup
theorem Mat.same {H H':Hp} {a:Addr} {rs:List Addr} {rss:List (List Int)} (e:j7 H H') (m:Mat H a rs rss):Mat H' a rs rss :=
 ⟨e _ _ m.top,m.len,fun i r row h1 h2=>e _ _ (m.row i r row h1 h2),m.nd⟩
theorem Mat.get {H:Hp} {a:Addr} {rs:List Addr} {rss:List (List Int)} (m:Mat H a rs rss) {i:Nat} {row:List Int} (h:rss[i]?=some row) :
  ∃ r,rs[i]?=some r∧(rs.map V.ref)[i]?=some (.ref r)∧H r=some (.lst (row.map V.int)):=by
 obtain ⟨hi,_⟩:=List.getElem?_eq_some_iff.mp h;have hr:i < rs.length:=by rw [m.len];exact hi
 refine ⟨rs[i],List.getElem?_eq_getElem hr,?_,m.row i _ row (List.getElem?_eq_getElem hr) h⟩;rw [List.getElem?_map,List.getElem?_eq_getElem hr];rfl
theorem Mat.upd {H:Hp} {a:Addr} {rs:List Addr} {rss:List (List Int)} (m:Mat H a rs rss) {b:Addr} {o:HO} (hb:b∉a :: rs):Mat (upd H b o) a rs rss:=by
 refine ⟨?_,m.len,fun i r row h1 h2=>?_,m.nd⟩
 ·rw [j5 (fun z=>hb (by rw [← z];exact List.mem_cons_self))];exact m.top
 ·rw [j5 (fun z=>hb (by rw [← z];exact List.mem_cons_of_mem _ (List.mem_of_getElem? h1)))];exact m.row i r row h1 h2
theorem Mat.mem {H:Hp} {a:Addr} {rs:List Addr} {rss:List (List Int)} (m:Mat H a rs rss) {b:Addr} (hb:b∈a :: rs):∃ o,H b=some o:=by
 rcases List.mem_cons.mp hb with rfl | hb
 ·exact ⟨_,m.top⟩
 ·obtain ⟨i,hi⟩:=List.getElem?_of_mem hb;obtain ⟨h1,_⟩:=List.getElem?_eq_some_iff.mp hi;have h2:i < rss.length:=by rw [← m.len];exact h1
  exact ⟨_,m.row i b rss[i] hi (List.getElem?_eq_getElem h2)⟩
theorem qL {ns:List Int} {i:Nat} {x:Int} (h:ns[i]?=some x):(ns.map V.int)[i]?=some (.int x):=by rw [List.getElem?_map,h];rfl
theorem qm {ns:List Int} {i:Nat} {x:V} (h:(ns.map V.int)[i]?=some x):∃ n,x=.int n∧ns[i]?=some n:=by
 rw [List.getElem?_map] at h;cases e:ns[i]? with
 | none=>rw [e] at h;cases h
 | some n=>rw [e] at h;cases h;exact ⟨n,rfl,rfl⟩
theorem yh {ns:List Bool} {i:Nat} {x:Bool} (h:ns[i]?=some x):(ns.map V.bl)[i]?=some (.bl x):=by rw [List.getElem?_map,h];rfl
theorem YK {ns:List Bool} {i:Nat} {x:V} (h:(ns.map V.bl)[i]?=some x):∃ n,x=.bl n∧ns[i]?=some n:=by
 rw [List.getElem?_map] at h;cases e:ns[i]? with
 | none=>rw [e] at h;cases h
 | some n=>rw [e] at h;cases h;exact ⟨n,rfl,rfl⟩
theorem jc {ns:List Addr} {i:Nat} {x:V} (h:(ns.map V.ref)[i]?=some x):∃ n,x=.ref n∧ns[i]?=some n:=by
 rw [List.getElem?_map] at h;cases e:ns[i]? with
 | none=>rw [e] at h;cases h
 | some n=>rw [e] at h;cases h;exact ⟨n,rfl,rfl⟩
def hfs (d:Int) (aw al:Addr):List (Str×V):=jo "lamps" (.ref al) (jo "ways" (.ref aw) (jo "doors" (.int d) []))
theorem j0v:¬ (("lamps":Str)="ways"):=by decide +kernel
theorem j0s:¬ (("lamps":Str)="doors"):=by decide +kernel
theorem j1K:¬ (("ways":Str)="doors"):=by decide +kernel
theorem yd (d:Int) (aw al:Addr):(hfs d aw al).lookup ("doors":Str)=some (.int d):=by
 unfold hfs;rw [ja,if_neg (fun z=>j0s z.symm),ja,if_neg (fun z=>j1K z.symm),ja,if_pos rfl]
theorem yO (d:Int) (aw al:Addr):(hfs d aw al).lookup ("ways":Str)=some (.ref aw):=by
 unfold hfs;rw [ja,if_neg (fun z=>j0v z.symm),ja,if_pos rfl]
theorem zG (d:Int) (aw al:Addr):(hfs d aw al).lookup ("lamps":Str)=some (.ref al):=by
 unfold hfs;rw [ja,if_pos rfl]
theorem vc (d:Int) (aw al:Addr) {m:Str} (h1:¬ m="lamps") (h2:¬ m="ways") (h3:¬ m="doors"):(hfs d aw al).lookup m=none:=by
 unfold hfs;rw [ja,if_neg h1,ja,if_neg h2,ja,if_neg h3];rfl
structure qX (C:Addr) (H:Hp) (p:Addr) (d:Int) (aw:Addr) (rs:List Addr) (rss:List (List Int)) (al:Addr) (ls:List Bool):Prop where
 ob:∃ dx,H p=some (.ins C dx (hfs d aw al))
 ways:Mat H aw rs rss
 lamps:H al=some (.lst (ls.map V.bl))
theorem qX.same {C:Addr} {H H':Hp} {p:Addr} {d:Int} {aw:Addr} {rs:List Addr} {rss:List (List Int)} {al:Addr} {ls:List Bool} (e:j7 H H') (h:qX C H p d aw rs rss al ls):qX C H' p d aw rs rss al ls :=
 ⟨let ⟨dx,q⟩:=h.ob;⟨dx,e _ _ q⟩,h.ways.same e,e _ _ h.lamps⟩
structure qr (H H':Hp) (l:Addr) (rs:List Addr) (f:Nat→List Int):Prop where
 top:H' l=some (.lst (rs.map V.ref))
 row:∀ (j:Nat) (b:Addr),rs[j]?=some b→H' b=some (.lst ((f j).map V.int))
 nd:(l :: rs).Nodup
 new:∀ b∈l :: rs,H b=none
 same:j7 H H'
theorem qr.start {H:Hp} {l:Addr} {f:Nat→List Int} (hl:H l=none):qr H (upd H l (.lst [])) l [] f :=
 ⟨j1,fun j b h=>by simp at h,by simp,fun b hb=>by rw [List.mem_singleton.mp hb];exact hl,j7.upd_new hl⟩
theorem qr.fresh {H H':Hp} {l:Addr} {rs:List Addr} {f:Nat→List Int} (G:qr H H' l rs f) {p:Addr} (hp:H' p=none):p∉l :: rs:=fun hm=>by
 rcases List.mem_cons.mp hm with rfl | hm
 ·rw [G.top] at hp;cases hp
 ·obtain ⟨j,hj⟩:=List.getElem?_of_mem hm;rw [G.row j p hj] at hp;cases hp
theorem qr.snoc {H H':Hp} {l p:Addr} {rs:List Addr} {f:Nat→List Int} (G:qr H H' l rs f) (hp:H' p=none) :
  qr H (upd (upd H' p (.lst ((f rs.length).map V.int))) l (.lst (rs.map V.ref++[.ref p]))) l (rs++[p]) f:=by
 have np:=G.fresh hp;have hpl:p≠l:=fun z=>np (by rw [z];exact List.mem_cons_self);have nl:l∉rs:=(List.nodup_cons.mp G.nd).1;refine ⟨?_,fun j b hj=>?_,?_,fun b hb=>?_,fun b o e=>?_⟩
 ·rw [j1,List.map_append];rfl
 ·have hbl:b≠l:=fun z=>by
   have hm:=List.mem_of_getElem? hj;rcases List.mem_append.mp hm with hm | hm
   ·exact nl (z ▸ hm)
   ·exact hpl ((List.mem_singleton.mp hm).symm.trans z)
  rw [j5 hbl]
  by_cases hlt:j < rs.length
  ·rw [List.getElem?_append_left hlt] at hj;have hbp:b≠p:=fun z=>np (List.mem_cons_of_mem _ (z ▸ List.mem_of_getElem? hj));rw [j5 hbp];exact G.row j b hj
  ·obtain ⟨hj1,_⟩:=List.getElem?_eq_some_iff.mp hj;have hj2:j=rs.length:=by rw [List.length_append,List.length_singleton] at hj1;omega
   subst hj2;rw [List.getElem?_append_right (Nat.le_refl _),Nat.sub_self] at hj;cases hj;rw [j1]
 ·have:(l :: (rs++[p])).Nodup:=by
   rw [← List.cons_append];exact zm G.nd np
  exact this
 ·have hb:b∈(l :: rs)++[p]:=hb;rcases List.mem_append.mp hb with hb | hb
  ·exact G.new b hb
  ·rw [List.mem_singleton.mp hb];exact G.same.free hp
 ·have hbl:b≠l:=jA e (G.new l List.mem_cons_self);have e':=G.same b o e;rw [j5 hbl,j5 (jA e' hp)];exact e'
theorem qr.mat {H H':Hp} {l:Addr} {rs:List Addr} {f:Nat→List Int} (G:qr H H' l rs f):Mat H' l rs ((List.range rs.length).map f) :=
 ⟨G.top,by simp,fun i r row h1 h2=>by
  rw [List.getElem?_map] at h2;obtain ⟨hi,_⟩:=List.getElem?_eq_some_iff.mp h1;rw [List.getElem?_range hi] at h2;cases h2;exact G.row i r h1,G.nd⟩
theorem qr.step {H H' H'':Hp} {l p:Addr} {rs:List Addr} {f:Nat→List Int} (G:qr H H' l rs f) (hp:H' p=none) (top:H'' l=some (.lst ((rs++[p]).map V.ref))) (row:H'' p=some (.lst ((f rs.length).map V.int)))
  (keep:∀ b o,b≠l→(b∈rs∨H b≠none)→H' b=some o→H'' b=some o):qr H H'' l (rs++[p]) f:=by
 have np:=G.fresh hp;have hpl:p≠l:=fun z=>np (by rw [z];exact List.mem_cons_self);have nl:l∉rs:=(List.nodup_cons.mp G.nd).1;refine ⟨top,fun j b hj=>?_,?_,fun b hb=>?_,fun b o e=>?_⟩
 ·by_cases hlt:j < rs.length
  ·rw [List.getElem?_append_left hlt] at hj;have hm:=List.mem_of_getElem? hj;exact keep b _ (fun z=>nl (z ▸ hm)) (.inl hm) (G.row j b hj)
  ·obtain ⟨hj1,_⟩:=List.getElem?_eq_some_iff.mp hj;have hj2:j=rs.length:=by rw [List.length_append,List.length_singleton] at hj1;omega
   subst hj2;rw [List.getElem?_append_right (Nat.le_refl _),Nat.sub_self] at hj;cases hj;exact row
 ·have:(l :: (rs++[p])).Nodup:=by
   rw [← List.cons_append];exact zm G.nd np
  exact this
 ·have hb:b∈(l :: rs)++[p]:=hb;rcases List.mem_append.mp hb with hb | hb
  ·exact G.new b hb
  ·rw [List.mem_singleton.mp hb];exact G.same.free hp
 ·have hbl:b≠l:=jA e (G.new l List.mem_cons_self);exact keep b o hbl (.inr (by rw [e];intro z;cases z)) (G.same b o e)
theorem qr.matOf {H H':Hp} {l:Addr} {rs:List Addr} {rss:List (List Int)} (G:qr H H' l rs (fun j=>rss.getD j [])) (hlen:rs.length=rss.length):Mat H' l rs rss:=by
 have:=G.mat;rw [hlen] at this;have e:(List.range rss.length).map (fun j=>rss.getD j [])=rss:=by
  apply List.ext_getElem
  ·simp
  ·intro i h1 h2;simp [List.getD_eq_getElem?_getD,List.getElem?_eq_getElem h2]
 rw [e] at this;exact this
theorem ZT {K:PySem.W.Frag} {H:Hp} {a:Addr} {rs:List Addr} {rss:List (List Int)} {σ:L2.St} {Q:VK} (M:Mat H a rs rss) (h900:rss.length≤900)
  (q:∀ aw rs' H',j7 H H'→Mat H' aw rs' rss→(∀ b∈aw :: rs',H b=none)→Q (.ref aw) H') :
  Qc [none] (zw 0) (tCB (fun xs H Q=>∃ p ys,xs=[.ref p]∧(SqL K H p ys∨SqT K H p ys)∧∀ l,H l=none→Q (.ref l) (upd H l (.lst ys))) (VW (XF 0) XU)) σ Q (Itl K a) H:=by
 refine yF (xs:=rs.map V.ref) (fun aw i ys H'=>∃ rs',ys=rs'.map V.ref∧rs'.length=i∧qr H H' aw rs' (fun j=>rss.getD j [])) (fun aw haw=>⟨[],rfl,rfl,qr.start haw⟩) (fun aw i ys H' haw _ p=>by obtain ⟨rs',_,_,G⟩:=p;exact SqL.of (G.same _ _ M.top)) (fun aw i x ys H' haw hx p=>?_) (fun aw ys H' haw p=>?_)
 ·obtain ⟨rs',rfl,hlen,G⟩:=p;obtain ⟨r,rfl,hr'⟩:=jc hx;obtain ⟨hi,_⟩:=List.getElem?_eq_some_iff.mp hr';have hi':i < rss.length:=by rw [← M.len];exact hi
  have hrow:=M.row i r rss[i] hr' (List.getElem?_eq_getElem hi');have egd:rss.getD rs'.length []=rss[i]:=by rw [hlen,List.getD_eq_getElem?_getD,List.getElem?_eq_getElem hi',Option.getD_some]
  walk_at "w";refine ⟨Wk.set rfl,?_⟩;walk_at "w";refine ⟨r,_,rfl,.inl (SqL.of (G.same _ _ hrow)),fun l0 hl0=>?_⟩;have hla:aw≠l0:=fun z=>G.fresh hl0 (by rw [z];exact List.mem_cons_self);refine ⟨by rw [j5 hla];exact G.top,yH (by simp;omega),rs'++[l0],by simp,by simp [hlen],?_⟩;have:=G.snoc hl0;rw [egd] at this;exact this
 ·obtain ⟨rs',rfl,hlen,G⟩:=p;have hlen':rs'.length=rss.length:=by rw [hlen,List.length_map,M.len]
  refine q aw rs' H' G.same ?_ G.new;have:=G.mat;rw [hlen'] at this;have e:(List.range rss.length).map (fun j=>rss.getD j [])=rss:=by
   apply List.ext_getElem
   ·simp
   ·intro i h1 h2;simp [List.getD_eq_getElem?_getD,List.getElem?_eq_getElem h2]
  rw [e] at this;exact this
theorem YG (K:PySem.W.Frag) (H:Hp):∀ ns:List Bool,Dts K H (ns.map V.bl) (ns.map PyData.bool)
 | []=>.nil
 | b :: r=>.cons (.bl b) (YG K H r)
theorem V2:∀ ns:List Bool,PyData.canLayAll0 (ns.map PyData.bool)=true
 | []=>rfl
 | _ :: r=>by simp [PyData.canLayAll0,PyData.canLay0,V2 r]
theorem Y2:∀ ns:List Bool,PyData.depthAll (ns.map PyData.bool)=0
 | []=>rfl
 | _ :: r=>by simp [PyData.depthAll,PyData.depth,Y2 r]
theorem J2 (ns:List Bool):SeqAt.shaped (.list (ns.map PyData.bool))=true:=by
 simp [SeqAt.shaped,PyData.canLay0,PyData.depth,V2,Y2]
theorem Ve:∀ ns:List Bool,PyData.eqvAll (ns.map PyData.bool) (ns.map PyData.bool)=true
 | []=>by simp [PyData.eqvAll]
 | b :: r=>by simp [PyData.eqvAll,PyData.eqv,Ve r]
def zi (ws:List Int):Prop:=∀ x∈ws,-1000000≤x∧x≤1000000
def bkf (d:Int) (nb:Addr):List (Str×V):=jo "noted" (.ref nb) (jo "doors" (.int d) [])
theorem j14:¬ (("noted":Str)="doors"):=by decide +kernel
theorem ZY (d:Int) (nb:Addr):(bkf d nb).lookup ("doors":Str)=some (.int d):=by
 unfold bkf;rw [ja,if_neg (fun z=>j14 z.symm),ja,if_pos rfl]
theorem vZ (d:Int) (nb:Addr):(bkf d nb).lookup ("noted":Str)=some (.ref nb):=by
 unfold bkf;rw [ja,if_pos rfl]
theorem vb (d:Int) (nb:Addr) {m:Str} (h1:¬ m="noted") (h2:¬ m="doors"):(bkf d nb).lookup m=none:=by
 unfold bkf;rw [ja,if_neg h1,ja,if_neg h2];rfl
def bkv (x:List Int×Bool):List Key×V:=(x.1.map Sum.inl,.bl x.2)
def kE (kvs:List (List Int×Bool)) (ws:List Int):V:=((saidO kvs ws).map V.bl).getD .non
theorem QM:∀ {a b:List Int},a.map (Sum.inl:Int→Key)=b.map Sum.inl→a=b
 | [],[],_=>rfl
 | [],_ :: _,h=>by simp at h
 | _ :: _,[],h=>by simp at h
 | x :: a,y :: b,h=>by
  simp only [List.map_cons,List.cons.injEq] at h;rw [Sum.inl.inj h.1,QM h.2]
theorem yA (ws:List Int):∀ kvs:List (List Int×Bool),yK (kvs.map bkv) (ws.map Sum.inl)=(saidO kvs ws).map V.bl
 | []=>rfl
 | (w,b) :: r=>by
  by_cases h:w=ws
  ·subst h;rw [List.map_cons,show bkv (w,b)=(w.map Sum.inl,V.bl b) from rfl,yU (p:=(w.map Sum.inl,V.bl b)) (k:=w.map Sum.inl) rfl];simp [saidO,bkv]
  ·rw [List.map_cons,yM (fun z=>h (QM z)),yA ws r];simp [saidO,h]
theorem zg (ws:List Int):(ws.map (Sum.inl:Int→Key)).map kV=ws.map V.int:=by
 rw [List.map_map];exact congrArg (fun f=>List.map f ws) (funext fun x=>rfl)
structure yy (C:Addr) (H:Hp) (p:Addr) (d:Int) (nb:Addr) (kvs:List (List Int×Bool)):Prop where
 ob:∃ dx,H p=some (.ins C dx (bkf d nb))
 noted:H nb=some (.dT (kvs.map bkv))
 nd:(kvs.map Prod.fst).Nodup
theorem yy.same {C:Addr} {H H':Hp} {p:Addr} {d:Int} {nb:Addr} {kvs:List (List Int×Bool)} (e:j7 H H') (h:yy C H p d nb kvs):yy C H' p d nb kvs :=
 ⟨let ⟨dx,q⟩:=h.ob;⟨dx,e _ _ q⟩,e _ _ h.noted,h.nd⟩
theorem x9 {kvs:List (List Int×Bool)} {ws:List Int} (h:saidO kvs ws=none):ws∉kvs.map Prod.fst:=fun z=>by
 obtain ⟨kv,h1,rfl⟩:=List.mem_map.mp z;unfold saidO at h;rw [Option.map_eq_none_iff,List.find?_eq_none] at h;exact h kv h1 (by simp)
theorem X9 {kvs:List (List Int×Bool)} {ws:List Int} {lit:Bool} (h:(kvs.map Prod.fst).Nodup) (hn:saidO kvs ws=none):((kvs++[(ws,lit)]).map Prod.fst).Nodup:=by
 rw [List.map_append,List.map_cons,List.map_nil];refine List.nodup_append.mpr ⟨h,by simp,fun a ha b hb e=>?_⟩;have e:a=ws:=by rw [e,List.mem_singleton.mp hb]
 exact x9 hn (by rw [← e];exact ha)
theorem YJ {kvs:List (List Int×Bool)} {ws:List Int} {lit:Bool} (h:(kvs.map Prod.fst).Nodup) (hs:saidO kvs ws=some lit):yY (kvs.map bkv) (ws.map Sum.inl) (.bl lit)=kvs.map bkv:=by
 unfold yY;rw [if_pos (by rw [zd,yA,hs];rfl),List.map_map];refine List.map_congr_left fun kv hk=>?_;show (if (kv.1.map Sum.inl:List Key)=ws.map Sum.inl then ((kv.1.map Sum.inl:List Key),V.bl lit) else bkv kv)=bkv kv
 by_cases e:kv.1=ws
 ·rw [if_pos (by rw [e])];have:kv.2=lit:=by
   unfold saidO at hs;obtain ⟨kv',h1,h2⟩:=Option.map_eq_some_iff.mp hs;have h3:=List.find?_some h1;have h4:=List.mem_of_find?_eq_some h1;have h5:kv'.1=kv.1:=by rw [e];simpa using h3
   obtain ⟨i,hi⟩:=List.getElem?_of_mem hk;obtain ⟨j,hj⟩:=List.getElem?_of_mem h4;have hij:i=j:=by
    refine (List.getElem?_inj (l:=kvs.map Prod.fst) (by rw [List.length_map];exact (List.getElem?_eq_some_iff.mp hi).1) h).mp ?_;rw [List.getElem?_map,List.getElem?_map,hi,hj];simp [h5]
   subst hij;rw [hi] at hj;rw [Option.some.inj hj];exact h2
  rw [← this];rfl
 ·rw [if_neg (fun z=>e (QM z))]
structure x6 (d:Int) (rss rss2:List (List Int)) (ls ls2:List Bool) (a b:Int) (w:List Int):Prop where
 ok:jD d w
 un:jh ls (jF rss a w)≠jh ls2 (jF rss2 b w)
 least:∀ v,jD d v→slt v w→jh ls (jF rss a v)=jh ls2 (jF rss2 b v)
theorem x6.uniq {d:Int} {rss rss2:List (List Int)} {ls ls2:List Bool} {a b:Int} {v w:List Int} (h1:x6 d rss rss2 ls ls2 a b v) (h2:x6 d rss rss2 ls ls2 a b w):v=w:=by
 rcases Z5 v w with h | h | h
 ·exact h
 ·exact absurd (h2.least v h1.ok h) h1.un
 ·exact absurd (h1.least w h2.ok h) h2.un
structure Jn (d:Int) (rss rss2:List (List Int)) (ls ls2:List Bool) (a b:Int):Prop where
 w1:Ways d rss
 w2:Ways d rss2
 l1:ls.length=rss.length
 l2:ls2.length=rss2.length
 a0:0≤a
 a1:a < rss.length
 b0:0≤b
 b1:b < rss2.length
 d1:1≤d
 d6:d≤6
 sz:rss.length * rss2.length≤100000
theorem getElem?_snoc {α:Type} {l:List α} {x y:α} {i:Nat} (h:(l++[x])[i]?=some y):(i < l.length∧l[i]?=some y)∨(i=l.length∧y=x):=by
 rcases Nat.lt_or_ge i l.length with hl | hl
 ·rw [List.getElem?_append_left hl] at h;exact .inl ⟨hl,h⟩
 ·rw [List.getElem?_append_right hl] at h;have hz:i - l.length=0:=by
   have:=(List.getElem?_eq_some_iff.mp h).1;simp at this;omega
  rw [hz] at h;simp at h;exact .inr ⟨by omega,h.symm⟩
theorem xN {α:Type} {w:List α} {i:Nat} {x:α} (h:w[i]?=some x):w.take (i+1)=w.take i++[x]:=by
 rw [List.take_add_one,h];rfl
theorem Mat.snocM {H' H2:Hp} {l p:Addr} {rs:List Addr} {rss:List (List Int)} {row:List Int} (M:Mat H' l rs rss) (s:j7 H' H2) (hp:H' p=none) (hv:H2 p=some (.lst (row.map V.int))) :
  Mat (L2.upd H2 l (.lst (rs.map V.ref++[.ref p]))) l (rs++[p]) (rss++[row]):=by
 have np:p∉l :: rs:=fun hm=>by obtain ⟨o,e⟩:=M.mem hm;rw [e] at hp;cases hp
 have hpl:p≠l:=fun z=>np (by rw [z];exact List.mem_cons_self);have nl:l∉rs:=(List.nodup_cons.mp M.nd).1;refine ⟨by rw [j1,List.map_append];rfl,by simp [M.len],fun i r row' h1 h2=>?_,?_⟩
 ·rcases getElem?_snoc h1 with ⟨hl,h1⟩ | ⟨hl,rfl⟩
  ·rw [List.getElem?_append_left (by rw [← M.len];exact hl)] at h2;have hz:r≠l:=fun z=>nl (by rw [← z];exact List.mem_of_getElem? h1);rw [j5 hz];exact s _ _ (M.row i r row' h1 h2)
  ·rcases getElem?_snoc h2 with ⟨h,_⟩ | ⟨_,rfl⟩
   ·rw [← M.len] at h;omega
   ·rw [j5 hpl];exact hv
 ·have:(l :: (rs++[p])).Nodup:=by
   rw [← List.cons_append];exact zm M.nd np
  exact this
structure LA where
 bk:Addr
 nb:Addr
 ha:Addr
 ta:Addr
 li:Addr
 ro:Addr
 hA:List Addr
 tA:List Addr
 lA:List Addr
 rA:List Addr
def qH (p:Addr) (L:LA):List Addr:=p :: L.bk :: L.nb :: L.ha :: L.ta :: L.li :: L.ro :: L.rA
def v8 (L:LA):List Addr:=L.hA++L.tA++L.lA
def yq (p:Addr) (L:LA):List Addr:=qH p L++v8 L
structure LFs (fs:List (Str×V)) (d:Int) (L:LA) (f:Nat):Prop where
 book:fs.lookup ("book":Str)=some (.ref L.bk)
 doors:fs.lookup ("doors":Str)=some (.int d)
 heads:fs.lookup ("heads":Str)=some (.ref L.ha)
 tails:fs.lookup ("tails":Str)=some (.ref L.ta)
 lines:fs.lookup ("lines":Str)=some (.ref L.li)
 rows:fs.lookup ("rows":Str)=some (.ref L.ro)
 filled:fs.lookup ("filled":Str)=some (.int (f:Int))
 no:∀ m:Str,m∉(["book","doors","heads","tails","lines","rows","filled"]:List Str)→fs.lookup m=none
 len:fs.length≤100
structure jk (C CB:Addr) (H:Hp) (p:Addr) (d:Int) (L:LA) (kn:Bk) (heads tails:List (List Int)) (rows:List (List Bool)) (f:Nat):Prop where
 ob:∃ dx fs,H p=some (.ins C dx fs)∧LFs fs d L f
 book:yy CB H L.bk d L.nb kn
 hds:H L.ha=some (.lst (L.hA.map V.ref))
 hdw:LsAt V.int H L.hA heads
 tls:H L.ta=some (.lst (L.tA.map V.ref))
 tlw:LsAt V.int H L.tA tails
 lns:H L.li=some (.lst (L.lA.map V.ref))
 lnw:LsAt V.int H L.lA (jC d heads)
 rws:H L.ro=some (.lst (L.rA.map V.ref))
 rww:LsAt V.bl H L.rA rows
 nd:(qH p L).Nodup
 sep:∀ a∈v8 L,a∉qH p L
theorem _root_.L2.LsAt.keep {α:Type} {g:α→V} {H H':Hp} {as:List Addr} {ws:List (List α)} (l:LsAt g H as ws) (k:∀ b∈as,∀ o,H b=some o→H' b=some o):LsAt g H' as ws :=
 ⟨l.len,fun i a w h1 h2=>k a (List.mem_of_getElem? h1) _ (l.row i a w h1 h2)⟩
theorem _root_.L2.LsAt.snoc {α:Type} {g:α→V} {H:Hp} {as:List Addr} {ws:List (List α)} (l:LsAt g H as ws) {a:Addr} {w:List α} (h:H a=some (.lst (w.map g))):LsAt g H (as++[a]) (ws++[w]):=by
 refine ⟨by rw [List.length_append,List.length_append,l.len];rfl,fun i b v h1 h2=>?_⟩
 by_cases hi:i < as.length
 ·rw [List.getElem?_append_left hi] at h1;rw [List.getElem?_append_left (by rw [← l.len];exact hi)] at h2;exact l.row i b v h1 h2
 ·have h3:=(List.getElem?_eq_some_iff.mp h1).1;rw [List.length_append,List.length_singleton] at h3;have hi2:i=as.length:=by omega
  rw [hi2,List.getElem?_append_right (Nat.le_refl _),Nat.sub_self] at h1;rw [hi2,l.len,List.getElem?_append_right (Nat.le_refl _),Nat.sub_self] at h2;cases h1;cases h2;exact h
theorem _root_.L2.LsAt.app {α:Type} {g:α→V} {H:Hp} {as bs:List Addr} {ws vs:List (List α)} (l:LsAt g H as ws) (m:LsAt g H bs vs):LsAt g H (as++bs) (ws++vs):=by
 refine ⟨by rw [List.length_append,List.length_append,l.len,m.len],fun i b v h1 h2=>?_⟩
 by_cases hi:i < as.length
 ·rw [List.getElem?_append_left hi] at h1;rw [List.getElem?_append_left (by rw [← l.len];exact hi)] at h2;exact l.row i b v h1 h2
 ·rw [List.getElem?_append_right (by omega)] at h1;rw [List.getElem?_append_right (by rw [← l.len];omega),← l.len] at h2;exact m.row _ b v h1 h2
theorem _root_.L2.LsAt.get {α:Type} {g:α→V} {H:Hp} {as:List Addr} {ws:List (List α)} (l:LsAt g H as ws) {i:Nat} {w:List α} (h:ws[i]?=some w):∃ a,as[i]?=some a∧(as.map V.ref)[i]?=some (.ref a)∧H a=some (.lst (w.map g)):=by
 have hi:i < as.length:=by rw [l.len];exact (List.getElem?_eq_some_iff.mp h).1
 refine ⟨as[i],List.getElem?_eq_getElem hi,by rw [List.getElem?_map,List.getElem?_eq_getElem hi];rfl,l.row i _ w (List.getElem?_eq_getElem hi) h⟩
theorem LFs.of {fs:List (Str×V)} {d:Int} {L L':LA} {f:Nat} (h:LFs fs d L f) (e1:L'.bk=L.bk) (e2:L'.ha=L.ha) (e3:L'.ta=L.ta) (e4:L'.li=L.li) (e5:L'.ro=L.ro):LFs fs d L' f :=
 ⟨by rw [e1];exact h.book,h.doors,by rw [e2];exact h.heads,by rw [e3];exact h.tails,by rw [e4];exact h.lines,by rw [e5];exact h.rows,h.filled,h.no,h.len⟩
theorem QV {f:Str} {v:V}:∀ {fs:List (Str×V)},fs.lookup f≠none→(jo f v fs).length=fs.length
 | [],h=>absurd rfl h
 | (g,x) :: r,h=>by
  unfold jo
  by_cases e:g=f
  ·rw [if_pos e];rfl
  ·rw [if_neg e,List.length_cons,List.length_cons,QV];intro z;apply h;have hb:(f == g)=false:=beq_eq_false_iff_ne.mpr fun z=>e z.symm;simp only [List.lookup,hb];exact z
theorem LFs.setF {fs:List (Str×V)} {d:Int} {L:LA} {f:Nat} (h:LFs fs d L f) (f':Nat):LFs (jo "filled" (.int (f':Int)) fs) d L f':=by
 have n:∀ m:Str,m≠"filled"→(jo "filled" (.int (f':Int)) fs).lookup m=fs.lookup m:=fun m hm=>by rw [ja,if_neg hm]
 refine ⟨by rw [n _ (by decide +kernel)];exact h.book,by rw [n _ (by decide +kernel)];exact h.doors,by rw [n _ (by decide +kernel)];exact h.heads,by rw [n _ (by decide +kernel)];exact h.tails,by rw [n _ (by decide +kernel)];exact h.lines,by rw [n _ (by decide +kernel)];exact h.rows,by rw [ja,if_pos rfl],fun m hm=>?_,?_⟩
 ·rw [n m fun z=>hm (by rw [z];simp)];exact h.no m hm
 ·rw [QV (by rw [h.filled];intro z;cases z)];exact h.len
section
variable {C CB:Addr} {H H':Hp} {p:Addr} {d:Int} {L:LA} {kn:Bk} {heads tails:List (List Int)} {rows:List (List Bool)} {f:Nat}
theorem jx {b:Addr} (h:b∈qH p L):b∈yq p L:=List.mem_append_left _ h
theorem yi {b:Addr} (h:b∈v8 L):b∈yq p L:=List.mem_append_right _ h
theorem kQ {b:Addr} (h:b∈L.hA):b∈v8 L:=List.mem_append_left _ (List.mem_append_left _ h)
theorem kT {b:Addr} (h:b∈L.tA):b∈v8 L:=List.mem_append_left _ (List.mem_append_right _ h)
theorem vq {b:Addr} (h:b∈L.lA):b∈v8 L:=List.mem_append_right _ h
theorem Zl:p∈qH p L:=by simp [qH]
theorem Ku:L.bk∈qH p L:=by simp [qH]
theorem QK:L.nb∈qH p L:=by simp [qH]
theorem Q7:L.ha∈qH p L:=by simp [qH]
theorem JG:L.ta∈qH p L:=by simp [qH]
theorem JU:L.li∈qH p L:=by simp [qH]
theorem QN:L.ro∈qH p L:=by simp [qH]
theorem Zs {b:Addr} (h:b∈L.rA):b∈qH p L:=by simp [qH,h]
theorem jk.keep (l:jk C CB H p d L kn heads tails rows f) (k:∀ b∈yq p L,∀ o,H b=some o→H' b=some o):jk C CB H' p d L kn heads tails rows f:=by
 obtain ⟨dx,fs,h1,h2⟩:=l.ob;obtain ⟨bx,hb⟩:=l.book.ob;exact ⟨⟨dx,fs,k _ (jx Zl) _ h1,h2⟩,⟨⟨bx,k _ (jx Ku) _ hb⟩,k _ (jx QK) _ l.book.noted,l.book.nd⟩,k _ (jx Q7) _ l.hds,l.hdw.keep fun b hb=>k b (yi (kQ hb)),k _ (jx JG) _ l.tls,l.tlw.keep fun b hb=>k b (yi (kT hb)),
  k _ (jx JU) _ l.lns,l.lnw.keep fun b hb=>k b (yi (vq hb)),k _ (jx QN) _ l.rws,l.rww.keep fun b hb=>k b (jx (Zs hb)),l.nd,l.sep⟩
theorem jk.same (l:jk C CB H p d L kn heads tails rows f) (e:j7 H H'):jk C CB H' p d L kn heads tails rows f:=l.keep fun b _ o q=>e b o q
theorem jk.has (l:jk C CB H p d L kn heads tails rows f) {b:Addr} (h:b∈yq p L):∃ o,H b=some o:=by
 rcases List.mem_append.mp h with h | h
 ·simp only [qH,List.mem_cons] at h;rcases h with rfl | rfl | rfl | rfl | rfl | rfl | rfl | h
  ·obtain ⟨_,_,h,_⟩:=l.ob;exact ⟨_,h⟩
  ·obtain ⟨_,h⟩:=l.book.ob;exact ⟨_,h⟩
  ·exact ⟨_,l.book.noted⟩
  ·exact ⟨_,l.hds⟩
  ·exact ⟨_,l.tls⟩
  ·exact ⟨_,l.lns⟩
  ·exact ⟨_,l.rws⟩
  ·obtain ⟨_,_,h⟩:=l.rww.mem h;exact ⟨_,h⟩
 ·rcases List.mem_append.mp h with h | h
  ·rcases List.mem_append.mp h with h | h
   ·obtain ⟨_,_,h⟩:=l.hdw.mem h;exact ⟨_,h⟩
   ·obtain ⟨_,_,h⟩:=l.tlw.mem h;exact ⟨_,h⟩
  ·obtain ⟨_,_,h⟩:=l.lnw.mem h;exact ⟨_,h⟩
theorem jk.notOwn (l:jk C CB H p d L kn heads tails rows f) {b:Addr} (h:H b=none):b∉yq p L:=fun z=>by
 obtain ⟨o,e⟩:=l.has z;rw [h] at e;cases e
end
structure qD (p:Addr) (L L':LA) (H H':Hp):Prop where
 kp:∀ b o,b∉qH p L→H b=some o→H' b=some o
 own:∀ b∈yq p L',b∈yq p L∨H b=none
 mu:∀ b∈qH p L',b∈qH p L∨H b=none
theorem qD.of {p:Addr} {L:LA} {H H':Hp} (k:∀ b o,b∉qH p L→H b=some o→H' b=some o):qD p L L H H':=⟨k,fun b h=>.inl h,fun b h=>.inl h⟩
theorem qD.same {p:Addr} {L:LA} {H H':Hp} (e:j7 H H'):qD p L L H H':=.of fun b o _ q=>e b o q
theorem qD.trans {p:Addr} {L L1 L2:LA} {H H1 H2:Hp} (a:qD p L L1 H H1) (b:qD p L1 L2 H1 H2):qD p L L2 H H2:=by
 have fr:∀ c,H1 c=none→c∈qH p L∨H c=none:=fun c e=>by
  by_cases hc:c∈qH p L
  ·exact .inl hc
  ·refine .inr ?_;cases hh:H c with
   | none=>rfl
   | some o=>rw [a.kp c o hc hh] at e;cases e
 refine ⟨fun c o hc e=>?_,fun c hc=>?_,fun c hc=>?_⟩
 ·refine b.kp c o (fun z=>?_) (a.kp c o hc e);rcases a.mu c z with h | h
  ·exact hc h
  ·rw [h] at e;cases e
 ·rcases b.own c hc with h | h
  ·exact a.own c h
  ·rcases fr c h with h | h
   ·exact .inl (jx h)
   ·exact .inr h
 ·rcases b.mu c hc with h | h
  ·exact a.mu c h
  ·exact fr c h
section
variable {C CB:Addr} {H H':Hp} {p:Addr} {d:Int} {L:LA} {kn:Bk} {heads tails:List (List Int)} {rows:List (List Bool)} {f:Nat}
theorem jk.setF (l:jk C CB H p d L kn heads tails rows f) {dx:Addr} {fs:List (Str×V)} {f':Nat} (h:LFs fs d L f'):jk C CB (upd H p (.ins C dx fs)) p d L kn heads tails rows f'∧qD p L L H (upd H p (.ins C dx fs)):=by
 have k:∀ b o,b≠p→H b=some o→upd H p (.ins C dx fs) b=some o:=fun b o hb e=>by rw [j5 hb];exact e
 have nd:=l.nd;simp only [qH,List.nodup_cons,List.mem_cons,not_or] at nd;obtain ⟨⟨n1,n2,n3,n4,n5,n6,n7⟩,_⟩:=nd;obtain ⟨bx,hb⟩:=l.book.ob;have sw:∀ b∈v8 L,b≠p:=fun b hb z=>l.sep b hb (by rw [z];exact Zl);refine ⟨⟨⟨dx,fs,j1,h⟩,⟨⟨bx,k _ _ (Ne.symm n1) hb⟩,k _ _ (Ne.symm n2) l.book.noted,l.book.nd⟩,k _ _ (Ne.symm n3) l.hds,l.hdw.keep fun b hb o=>k b o (sw b (kQ hb)),k _ _ (Ne.symm n4) l.tls,l.tlw.keep fun b hb o=>k b o (sw b (kT hb)),
  k _ _ (Ne.symm n5) l.lns,l.lnw.keep fun b hb o=>k b o (sw b (vq hb)),k _ _ (Ne.symm n6) l.rws,l.rww.keep fun b hb o=>k b o fun z=>n7 (by rw [← z];exact hb),l.nd,l.sep⟩,.of fun b o hb e=>k b o (fun z=>hb (by rw [z];exact Zl)) e⟩
theorem _root_.L2.LsAt.set {α:Type} {g:α→V} {as:List Addr} {ws:List (List α)} (l:LsAt g H as ws) (hn:as.Nodup) {k:Nat} {a:Addr} (ha:as[k]?=some a) (w:List α):LsAt g (upd H a (.lst (w.map g))) as (ws.set k w):=by
 refine ⟨by rw [List.length_set];exact l.len,fun i b v h1 h2=>?_⟩
 by_cases hi:k=i
 ·subst hi;rw [ha] at h1;cases h1;rw [List.getElem?_set_self (by rw [← l.len];exact (List.getElem?_eq_some_iff.mp ha).1)] at h2;cases h2;exact j1
 ·rw [List.getElem?_set_ne hi] at h2;have hb:b≠a:=fun z=>by
   subst z;obtain ⟨q1,e1⟩:=List.getElem?_eq_some_iff.mp ha;obtain ⟨q2,e2⟩:=List.getElem?_eq_some_iff.mp h1;exact hi ((List.getElem_inj hn).mp (e1.trans e2.symm))
  rw [j5 hb];exact l.row i b v h1 h2
theorem jk.rnd (l:jk C CB H p d L kn heads tails rows f):L.rA.Nodup∧p∉L.rA∧L.bk∉L.rA∧L.nb∉L.rA∧L.ha∉L.rA∧L.ta∉L.rA∧L.li∉L.rA∧L.ro∉L.rA:=by
 have nd:=l.nd;simp only [qH,List.nodup_cons,List.mem_cons,not_or] at nd;obtain ⟨⟨_,_,_,_,_,_,a1⟩,⟨_,_,_,_,_,a2⟩,⟨_,_,_,_,a3⟩,⟨_,_,_,a4⟩,⟨_,_,a5⟩,⟨_,a6⟩,a7,a8⟩:=nd;exact ⟨a8,a1,a2,a3,a4,a5,a6,a7⟩
theorem jk.setR (l:jk C CB H p d L kn heads tails rows f) {k:Nat} {ra:Addr} (hr:L.rA[k]?=some ra) (r:List Bool):jk C CB (upd H ra (.lst (r.map V.bl))) p d L kn heads tails (rows.set k r) f∧qD p L L H (upd H ra (.lst (r.map V.bl))):=by
 have hm:=List.mem_of_getElem? hr;have k:∀ b o,b≠ra→H b=some o→upd H ra (.lst (r.map V.bl)) b=some o:=fun b o hb e=>by rw [j5 hb];exact e
 obtain ⟨nd,n1,n2,n3,n4,n5,n6,n7⟩:=l.rnd;have ne:∀ b,b∉L.rA→b≠ra:=fun b hb z=>hb (by rw [z];exact hm);obtain ⟨dx,fs,h1,h2⟩:=l.ob;obtain ⟨bx,hb⟩:=l.book.ob;have sw:∀ b∈v8 L,b≠ra:=fun b hb z=>l.sep b hb (by rw [z];exact Zs hm);exact ⟨⟨⟨dx,fs,k _ _ (ne _ n1) h1,h2⟩,⟨⟨bx,k _ _ (ne _ n2) hb⟩,k _ _ (ne _ n3) l.book.noted,l.book.nd⟩,k _ _ (ne _ n4) l.hds,l.hdw.keep fun b hb o=>k b o (sw b (kQ hb)),k _ _ (ne _ n5) l.tls,l.tlw.keep fun b hb o=>k b o (sw b (kT hb)),
  k _ _ (ne _ n6) l.lns,l.lnw.keep fun b hb o=>k b o (sw b (vq hb)),k _ _ (ne _ n7) l.rws,l.rww.set nd hr r,l.nd,l.sep⟩,.of fun b o hb e=>k b o (fun z=>hb (by rw [z];exact Zs hm)) e⟩
end
structure zh (heads tails:List (List Int)) (kn:Bk):Prop where
 hs:heads.length≤400
 ts:tails.length≤100000
 tw:∀ t∈tails,t.length≤100000
 ks:kn.length≤100000
theorem qj {n:Nat} (h:n≤1000000):n < sizeLine:=Nat.lt_of_le_of_lt h (by decide)
structure LS (C CB:Addr) (H:Hp) (p:Addr) (d:Int) (L:LA) (kn:Bk) (heads tails:List (List Int)):Prop where
 ex:∃ rows f,jk C CB H p d L kn heads tails rows f∧jv d kn heads tails rows f
 I:LI d kn heads tails
 st:jt d kn heads tails≠none∨qB d kn heads tails=none
theorem LS.keep {C CB:Addr} {H H':Hp} {p:Addr} {d:Int} {L:LA} {kn:Bk} {heads tails:List (List Int)} (s:LS C CB H p d L kn heads tails) (k:∀ b∈yq p L,∀ o,H b=some o→H' b=some o):LS C CB H' p d L kn heads tails:=by
 obtain ⟨rows,f,l,R⟩:=s.ex;exact ⟨⟨rows,f,l.keep k,R⟩,s.I,s.st⟩
theorem LS.same {C CB:Addr} {H H':Hp} {p:Addr} {d:Int} {L:LA} {kn:Bk} {heads tails:List (List Int)} (s:LS C CB H p d L kn heads tails) (e:j7 H H'):LS C CB H' p d L kn heads tails:=s.keep fun b _ o q=>e b o q
theorem LI.lines1000 {d:Int} {kn:Bk} {heads tails:List (List Int)} (I:LI d kn heads tails) (h:heads.length≤400):∀ l∈jC d heads,l.length≤1000:=fun l hl=>by
 have:=(I.lok hl).2;omega
theorem yR {d:Int} {w:List Int} (h:jD d w) (hd:d≤6):zi w:=fun x hx=>by
 obtain ⟨h0,h1⟩:=h x hx
 constructor <;> omega
section
variable {C CB:Addr} {H H':Hp} {p:Addr} {d:Int} {L:LA} {kn:Bk} {heads tails:List (List Int)} {rows:List (List Bool)} {f:Nat}
theorem jk.noted (l:jk C CB H p d L kn heads tails rows f) {kn':Bk} (hb:yy CB H' L.bk d L.nb kn') (k:∀ y o,y≠L.nb→H y=some o→H' y=some o):jk C CB H' p d L kn' heads tails rows f∧qD p L L H H':=by
 have nd:=l.nd;simp only [qH,List.nodup_cons,List.mem_cons,not_or] at nd;obtain ⟨⟨_,p2,_,_,_,_,_⟩,⟨_,_,_,_,_,_⟩,⟨c3,c4,c5,c6,c7⟩,_⟩:=nd;obtain ⟨dx,fs,h1,h2⟩:=l.ob;have sw:∀ b∈v8 L,b≠L.nb:=fun b hb z=>l.sep b hb (by rw [z];exact QK);exact ⟨⟨⟨dx,fs,k _ _ p2 h1,h2⟩,hb,k _ _ (Ne.symm c3) l.hds,l.hdw.keep fun b hb o=>k b o (sw b (kQ hb)),k _ _ (Ne.symm c4) l.tls,l.tlw.keep fun b hb o=>k b o (sw b (kT hb)),
  k _ _ (Ne.symm c5) l.lns,l.lnw.keep fun b hb o=>k b o (sw b (vq hb)),k _ _ (Ne.symm c6) l.rws,l.rww.keep fun b hb o=>k b o fun z=>c7 (by rw [← z];exact hb),l.nd,l.sep⟩,.of fun b o hb e=>k b o (fun z=>hb (by rw [z];exact QK)) e⟩
theorem jk.tail (l:jk C CB H p d L kn heads tails rows f) {e:Addr} {w:List Int} (he:H e=some (.lst (w.map V.int))) (ne:e∉qH p L):jk C CB (upd H L.ta (.lst ((L.tA++[e]).map V.ref))) p d { L with tA:=L.tA++[e] } kn heads (tails++[w]) rows f∧∀ b o,b≠L.ta→H b=some o→upd H L.ta (.lst ((L.tA++[e]).map V.ref)) b=some o:=by
 have k:∀ b o,b≠L.ta→H b=some o→upd H L.ta (.lst ((L.tA++[e]).map V.ref)) b=some o:=fun b o hb q=>by rw [j5 hb];exact q
 have nd:=l.nd;simp only [qH,List.nodup_cons,List.mem_cons,not_or] at nd;obtain ⟨⟨_,_,_,p4,_,_,_⟩,⟨_,_,b4,_,_,_⟩,⟨_,c4,_,_,_⟩,⟨d4,_,_,_⟩,⟨e5,e6,e7⟩,_⟩:=nd;obtain ⟨dx,fs,h1,h2⟩:=l.ob;obtain ⟨bx,hb⟩:=l.book.ob;have sw:∀ b∈v8 L,b≠L.ta:=fun b hb z=>l.sep b hb (by rw [z];exact JG);have nee:e≠L.ta:=fun z=>ne (by rw [z];exact JG);refine ⟨⟨⟨dx,fs,k _ _ p4 h1,h2.of rfl rfl rfl rfl rfl⟩,⟨⟨bx,k _ _ b4 hb⟩,k _ _ c4 l.book.noted,l.book.nd⟩,k _ _ d4 l.hds,l.hdw.keep fun b hb o=>k b o (sw b (kQ hb)),j1,LsAt.snoc (l.tlw.keep fun b hb o=>k b o (sw b (kT hb))) (k _ _ nee he),
  k _ _ (Ne.symm e5) l.lns,l.lnw.keep fun b hb o=>k b o (sw b (vq hb)),k _ _ (Ne.symm e6) l.rws,l.rww.keep fun b hb o=>k b o fun z=>e7 (by rw [← z];exact hb),l.nd,fun b hb=>?_⟩,k⟩
 have hb':b∈v8 L∨b=e:=by
  rcases List.mem_append.mp hb with hb | hb
  ·rcases List.mem_append.mp hb with hb | hb
   ·exact .inl (kQ hb)
   ·rcases List.mem_append.mp hb with hb | hb
    ·exact .inl (kT hb)
    ·exact .inr (List.mem_singleton.mp hb)
  ·exact .inl (vq hb)
 rcases hb' with hb' | hb'
 ·exact l.sep b hb'
 ·rw [hb'];exact ne
theorem Vl {e b:Addr} (h:b∈yq p { L with tA:=L.tA++[e] }):b∈yq p L∨b=e:=by
 rcases List.mem_append.mp h with h | h
 ·exact .inl (jx h)
 ·rcases List.mem_append.mp h with h | h
  ·rcases List.mem_append.mp h with h | h
   ·exact .inl (yi (kQ h))
   ·rcases List.mem_append.mp h with h | h
    ·exact .inl (yi (kT h))
    ·exact .inr (List.mem_singleton.mp h)
  ·exact .inl (yi (vq h))
end
structure Env (H0 H:Hp) (p:Addr) (L:LA):Prop where
 same:j7 H0 H
 out:∀ b∈yq p L,H0 b=none
theorem Env.step {H0 H H':Hp} {p:Addr} {L L':LA} (e:Env H0 H p L) (s:qD p L L' H H'):Env H0 H' p L':=by
 refine ⟨fun b o q=>s.kp b o (fun z=>?_) (e.same b o q),fun b hb=>?_⟩
 ·rw [e.out b (jx z)] at q;cases q
 ·rcases s.own b hb with h | h
  ·exact e.out b h
  ·exact e.same.free h
theorem Env.keep {H0 H H':Hp} {p:Addr} {L:LA} (e:Env H0 H p L) (k:∀ b o,H0 b=some o→H b=some o→H' b=some o):Env H0 H' p L:=⟨fun b o q=>k b o q (e.same b o q),e.out⟩
section
variable {H H':Hp} {wa sa:Addr} {wA sA qA:List Addr} {kn:Bk} {p:Addr} {L L':LA}
end
set_option genInjectivity false in
set_option genSizeOf false in
structure Adr where
 C_House:Addr
 C_Book:Addr
 C_Learner:Addr
 C_BadWord:Addr
 C_OtherDoors:Addr
 C_SaidOtherwise:Addr
 f_zR:Addr
 fd_zR:FuncData
 f_zS:Addr
 fd_zS:FuncData
 f_zX:Addr
 fd_zX:FuncData
 f_zY:Addr
 fd_zY:FuncData
 f_zT:Addr
 fd_zT:FuncData
 f_zU:Addr
 fd_zU:FuncData
 f_zJ:Addr
 fd_zJ:FuncData
 f_zZ:Addr
 fd_zZ:FuncData
 f_zp:Addr
 fd_zp:FuncData
 f_zN:Addr
 fd_zN:FuncData
 f_zO:Addr
 fd_zO:FuncData
 f_zP:Addr
 fd_zP:FuncData
 f_zE:Addr
 fd_zE:FuncData
 f_za:Addr
 fd_za:FuncData
 f_ze:Addr
 fd_ze:FuncData
 f_zf:Addr
 fd_zf:FuncData
 f_zH:Addr
 fd_zH:FuncData
 f_zg:Addr
 fd_zg:FuncData
 f_zF:Addr
 fd_zF:FuncData
 f_zQ:Addr
 fd_zQ:FuncData
 f_zV:Addr
 fd_zV:FuncData
 f_zG:Addr
 fd_zG:FuncData
 f_zB:Addr
 fd_zB:FuncData
 f_zC:Addr
 fd_zC:FuncData
 f_zA:Addr
 fd_zA:FuncData
 f_zI:Addr
 fd_zI:FuncData
 f_zK:Addr
 fd_zK:FuncData
 f_zD:Addr
 fd_zD:FuncData
 f_zL:Addr
 fd_zL:FuncData
 f_zb:Addr
 fd_zb:FuncData
 f_zq:Addr
 fd_zq:FuncData
 f_zh:Addr
 fd_zh:FuncData
 f_zr:Addr
 fd_zr:FuncData
 f_zi:Addr
 fd_zi:FuncData
 f_zc:Addr
 fd_zc:FuncData
 f_zs:Addr
 fd_zs:FuncData
 f_zm:Addr
 fd_zm:FuncData
 f_zj:Addr
 fd_zj:FuncData
 f_zl:Addr
 fd_zl:FuncData
 f_zd:Addr
 fd_zd:FuncData
 f_zW:Addr
 fd_zW:FuncData
 f_zt:Addr
 fd_zt:FuncData
 f_zM:Addr
 fd_zM:FuncData
 f_zn:Addr
 fd_zn:FuncData
 f_zu:Addr
 fd_zu:FuncData
 f_zw:Addr
 fd_zw:FuncData
 f_zo:Addr
 fd_zo:FuncData
 f_zk:Addr
 fd_zk:FuncData
 f_zv:Addr
 fd_zv:FuncData
 f_law:Addr
 fd_law:FuncData
structure Txt (K:PySem.W.Frag) (mg:Str→Option Value) (t:Adr):Prop where
 m_len:mg "len"=none
 m_range:mg "range"=none
 m_isinstance:mg "isinstance"=none
 m_list:mg "list"=none
 m_int:mg "int"=none
 m_bool:mg "bool"=none
 m_enumerate:mg "enumerate"=none
 m_tuple:mg "tuple"=none
 m_ValueError:mg "ValueError"=none
 m_zip:mg "zip"=none
 mg_MOST_DOORS:∃ tk,mg "MOST_DOORS"=some (.int 6 tk)
 mg_MOST_ROOMS:∃ tk,mg "MOST_ROOMS"=some (.int 400 tk)
 mg_House:mg "House"=some (.ref t.C_House)
 cl_House:Cls K t.C_House
 tc_House:PySem.W.findIn K (.ref t.C_House) "__class__"=some (some (.builtin "object.__class__"))
 tm_House:PySem.W.mroIn K t.C_House (.type "object")=some true
 na_House_doors:qW K t.C_House "doors"
 na_House_ways:qW K t.C_House "ways"
 na_House_lamps:qW K t.C_House "lamps"
 mg_Book:mg "Book"=some (.ref t.C_Book)
 cl_Book:Cls K t.C_Book
 tc_Book:PySem.W.findIn K (.ref t.C_Book) "__class__"=some (some (.builtin "object.__class__"))
 tm_Book:PySem.W.mroIn K t.C_Book (.type "object")=some true
 na_Book_doors:qW K t.C_Book "doors"
 na_Book_noted:qW K t.C_Book "noted"
 mg_Learner:mg "Learner"=some (.ref t.C_Learner)
 cl_Learner:Cls K t.C_Learner
 tc_Learner:PySem.W.findIn K (.ref t.C_Learner) "__class__"=some (some (.builtin "object.__class__"))
 tm_Learner:PySem.W.mroIn K t.C_Learner (.type "object")=some true
 na_Learner_book:qW K t.C_Learner "book"
 na_Learner_doors:qW K t.C_Learner "doors"
 na_Learner_heads:qW K t.C_Learner "heads"
 na_Learner_tails:qW K t.C_Learner "tails"
 na_Learner_lines:qW K t.C_Learner "lines"
 na_Learner_rows:qW K t.C_Learner "rows"
 na_Learner_filled:qW K t.C_Learner "filled"
 mg_BadWord:mg "BadWord"=some (.ref t.C_BadWord)
 ex_BadWord:U6 K "BadWord" t.C_BadWord
 cl_BadWord:PySem.W.isClsIn K t.C_BadWord=true
 ty_BadWord:PySem.W.typeIn K (.ref t.C_BadWord)=some (.type "type")
 mv_BadWord:PySem.W.mroIn K t.C_BadWord (.type "ValueError")=some true
 ms_BadWord:PySem.W.mroIn K t.C_BadWord (.ref t.C_BadWord)=some true
 mg_OtherDoors:mg "OtherDoors"=some (.ref t.C_OtherDoors)
 ex_OtherDoors:U6 K "OtherDoors" t.C_OtherDoors
 cl_OtherDoors:PySem.W.isClsIn K t.C_OtherDoors=true
 ty_OtherDoors:PySem.W.typeIn K (.ref t.C_OtherDoors)=some (.type "type")
 mv_OtherDoors:PySem.W.mroIn K t.C_OtherDoors (.type "ValueError")=some true
 ms_OtherDoors:PySem.W.mroIn K t.C_OtherDoors (.ref t.C_OtherDoors)=some true
 mg_SaidOtherwise:mg "SaidOtherwise"=some (.ref t.C_SaidOtherwise)
 ex_SaidOtherwise:U6 K "SaidOtherwise" t.C_SaidOtherwise
 cl_SaidOtherwise:PySem.W.isClsIn K t.C_SaidOtherwise=true
 ty_SaidOtherwise:PySem.W.typeIn K (.ref t.C_SaidOtherwise)=some (.type "type")
 mv_SaidOtherwise:PySem.W.mroIn K t.C_SaidOtherwise (.type "ValueError")=some true
 ms_SaidOtherwise:PySem.W.mroIn K t.C_SaidOtherwise (.ref t.C_SaidOtherwise)=some true
 tg:PySem.W.specialIn K (.builtin "object.__class__") "__get__"=some (some (.builtin "getset_descriptor.__get__"))
 tt:PySem.W.takesIn K (.builtin "object.__class__")=some true
 mg_zR:mg "check_doors"=some (.ref t.f_zR)
 F_zR:Fun K "check_doors" "check_doors" Jy t.f_zR t.fd_zR
 mg_zS:mg "check_house"=some (.ref t.f_zS)
 F_zS:Fun K "check_house" "check_house" JL t.f_zS t.fd_zS
 mg_zX:mg "check_word"=some (.ref t.f_zX)
 F_zX:Fun K "check_word" "check_word" Jg t.f_zX t.fd_zX
 F_zY:Fun K "__init__" "House.__init__" kM t.f_zY t.fd_zY
 mk_House:Mk K t.C_House t.f_zY
 F_zT:Fun K "rooms" "House.rooms" QJ t.f_zT t.fd_zT
 me_zT:zJ K t.C_House "rooms" t.f_zT
 F_zU:Fun K "trail" "House.trail" Jp t.f_zU t.fd_zU
 me_zU:zJ K t.C_House "trail" t.f_zU
 F_zJ:Fun K "room_of" "House.room_of" QO t.f_zJ t.fd_zJ
 me_zJ:zJ K t.C_House "room_of" t.f_zJ
 F_zZ:Fun K "says" "House.says" QC t.f_zZ t.fd_zZ
 me_zZ:zJ K t.C_House "says" t.f_zZ
 mg_zp:mg "leader"=some (.ref t.f_zp)
 F_zp:Fun K "leader" "leader" Ju t.f_zp t.fd_zp
 mg_zN:mg "newly_linked"=some (.ref t.f_zN)
 F_zN:Fun K "newly_linked" "newly_linked" JY t.f_zN t.fd_zN
 mg_zO:mg "pairs_behind"=some (.ref t.f_zO)
 F_zO:Fun K "pairs_behind" "pairs_behind" JT t.f_zO t.fd_zO
 mg_zP:mg "parting_word"=some (.ref t.f_zP)
 F_zP:Fun K "parting_word" "parting_word" JR t.f_zP t.fd_zP
 mg_zE:mg "check_same_doors"=some (.ref t.f_zE)
 F_zE:Fun K "check_same_doors" "check_same_doors" Jd t.f_zE t.fd_zE
 mg_za:mg "difference"=some (.ref t.f_za)
 F_za:Fun K "difference" "difference" kP t.f_za t.fd_za
 F_ze:Fun K "__init__" "Book.__init__" JO t.f_ze t.fd_ze
 mk_Book:Mk K t.C_Book t.f_ze
 F_zf:Fun K "said" "Book.said" Jl t.f_zf t.fd_zf
 me_zf:zJ K t.C_Book "said" t.f_zf
 F_zH:Fun K "check_note" "Book.check_note" Q4 t.f_zH t.fd_zH
 me_zH:zJ K t.C_Book "check_note" t.f_zH
 F_zg:Fun K "note" "Book.note" Q3 t.f_zg t.fd_zg
 me_zg:zJ K t.C_Book "note" t.f_zg
 F_zF:Fun K "add_head" "Learner.add_head" JV t.f_zF t.fd_zF
 me_zF:zJ K t.C_Learner "add_head" t.f_zF
 F_zQ:Fun K "__init__" "Learner.__init__" Jh t.f_zQ t.fd_zQ
 mk_Learner:Mk K t.C_Learner t.f_zQ
 F_zV:Fun K "gap" "Learner.gap" Js t.f_zV t.fd_zV
 me_zV:zJ K t.C_Learner "gap" t.f_zV
 F_zG:Fun K "question" "Learner.question" Jj t.f_zG t.fd_zG
 me_zG:zJ K t.C_Learner "question" t.f_zG
 F_zB:Fun K "heads_by_row" "Learner.heads_by_row" QD t.f_zB t.fd_zB
 me_zB:zJ K t.C_Learner "heads_by_row" t.f_zB
 F_zC:Fun K "unlike_edge" "Learner.unlike_edge" JW t.f_zC t.fd_zC
 me_zC:zJ K t.C_Learner "unlike_edge" t.f_zC
 F_zA:Fun K "add_unlike_edges" "Learner.add_unlike_edges" JI t.f_zA t.fd_zA
 me_zA:zJ K t.C_Learner "add_unlike_edges" t.f_zA
 F_zI:Fun K "answer" "Learner.answer" Je t.f_zI t.fd_zI
 me_zI:zJ K t.C_Learner "answer" t.f_zI
 F_zK:Fun K "guess" "Learner.guess" kD t.f_zK t.fd_zK
 me_zK:zJ K t.C_Learner "guess" t.f_zK
 F_zD:Fun K "add_tails" "Learner.add_tails" Jm t.f_zD t.fd_zD
 me_zD:zJ K t.C_Learner "add_tails" t.f_zD
 F_zL:Fun K "wrong" "Learner.wrong" QA t.f_zL t.fd_zL
 me_zL:zJ K t.C_Learner "wrong" t.f_zL
 mg_zb:mg "answer_all"=some (.ref t.f_zb)
 F_zb:Fun K "answer_all" "answer_all" Q9 t.f_zb t.fd_zb
 mg_zq:mg "lesson"=some (.ref t.f_zq)
 F_zq:Fun K "lesson" "lesson" QP t.f_zq t.fd_zq
 mg_zh:mg "_law_cell_at"=some (.ref t.f_zh)
 F_zh:Fun K "_law_cell_at" "_law_cell_at" Jb t.f_zh t.fd_zh
 mg_zr:mg "_law_draw"=some (.ref t.f_zr)
 F_zr:Fun K "_law_draw" "_law_draw" Ji t.f_zr t.fd_zr
 mg_zi:mg "_law_ways_by"=some (.ref t.f_zi)
 F_zi:Fun K "_law_ways_by" "_law_ways_by" kS t.f_zi t.fd_zi
 mg_zc:mg "_law_lamps_by"=some (.ref t.f_zc)
 F_zc:Fun K "_law_lamps_by" "_law_lamps_by" kL t.f_zc t.fd_zc
 mg_zs:mg "_law_walk"=some (.ref t.f_zs)
 F_zs:Fun K "_law_walk" "_law_walk" Jc t.f_zs t.fd_zs
 mg_zm:mg "_law_whole"=some (.ref t.f_zm)
 F_zm:Fun K "_law_whole" "_law_whole" Q1 t.f_zm t.fd_zm
 mg_zj:mg "_law_numbers"=some (.ref t.f_zj)
 F_zj:Fun K "_law_numbers" "_law_numbers" QG t.f_zj t.fd_zj
 mg_zl:mg "_law_truths"=some (.ref t.f_zl)
 F_zl:Fun K "_law_truths" "_law_truths" Q5 t.f_zl t.fd_zl
 mg_zd:mg "_law_house_is"=some (.ref t.f_zd)
 F_zd:Fun K "_law_house_is" "_law_house_is" Q8 t.f_zd t.fd_zd
 mg_zW:mg "_law_words_are"=some (.ref t.f_zW)
 F_zW:Fun K "_law_words_are" "_law_words_are" Q0 t.f_zW t.fd_zW
 mg_zt:mg "_law_part"=some (.ref t.f_zt)
 F_zt:Fun K "_law_part" "_law_part" QH t.f_zt t.fd_zt
 mg_zM:mg "_law_least_words"=some (.ref t.f_zM)
 F_zM:Fun K "_law_least_words" "_law_least_words" Q6 t.f_zM t.fd_zM
 mg_zn:mg "_law_kinds"=some (.ref t.f_zn)
 F_zn:Fun K "_law_kinds" "_law_kinds" kO t.f_zn t.fd_zn
 mg_zu:mg "_law_next"=some (.ref t.f_zu)
 F_zu:Fun K "_law_next" "_law_next" kN t.f_zu t.fd_zu
 mg_zw:mg "_law_row"=some (.ref t.f_zw)
 F_zw:Fun K "_law_row" "_law_row" kH t.f_zw t.fd_zw
 mg_zo:mg "_law_grown"=some (.ref t.f_zo)
 F_zo:Fun K "_law_grown" "_law_grown" kI t.f_zo t.fd_zo
 mg_zk:mg "_law_guessed"=some (.ref t.f_zk)
 F_zk:Fun K "_law_guessed" "_law_guessed" xA t.f_zk t.fd_zk
 mg_zv:mg "_law_ends"=some (.ref t.f_zv)
 F_zv:Fun K "_law_ends" "_law_ends" QE t.f_zv t.fd_zv
 mg_law:mg "law"=some (.ref t.f_law)
 F_law:Fun K "law" "law" vQ t.f_law t.fd_law
section
variable {P:Program} {w:World} {K:PySem.W.Frag} {mg:Str→Option Value} {base:Heap} {t:Adr}
theorem Wt:jM ["doors"] ["doors"] (j2 Jy):=⟨rfl,rfl,rfl,by decide +kernel,rfl,by decide +kernel,by decide +kernel⟩
theorem j00 (T:Txt K mg t):jd K t.fd_zR ["doors"] []:=T.F_zR.binds fun _ _ _ _ _ _ us hl=>by obtain ⟨_,rfl⟩:=zf hl;rfl
def WJ:Sp:=fun vs H Q _=>∃ d:Int,vs=[.int d]∧1≤d∧d≤6∧Q .non H
theorem KL (T:Txt K mg t):qE P w K mg base CX0 1 t.f_zR t.fd_zR ["doors"] (WJ):=by
 refine T.F_zR.ok Wt (fun vs H Q E h=>?_) (fun cdv A outer s H vs Q E hr h=>?_)
 ·obtain ⟨d,rfl,_⟩:=h;rfl
 ·obtain ⟨d,rfl,hd1,hd6,q⟩:=h;refine ⟨_,j6 (jz (qo (vT J8 J8 (jG) (pv 0) (JK (v:=.int 6) rfl T.mg_MOST_DOORS.choose_spec ⟨_,rfl⟩)))
 (j6 (yX))
 (jS)),?_⟩
  walk_at "w";refine qK (decide_eq_true hd1) ?_;walk_at "w";refine jU (by simp [hd6]) ?_;walk_at "w";exact q
theorem Qx:jM ["doors","ways","lamps","rooms","room","row","way"] ["doors","ways","lamps"] (j2 JL):=⟨rfl,rfl,rfl,by decide +kernel,rfl,by decide +kernel,by decide +kernel⟩
theorem j0q (T:Txt K mg t):jd K t.fd_zS ["doors","ways","lamps"] []:=T.F_zS.binds fun _ _ _ _ _ _ us hl=>by obtain ⟨_,_,_,rfl⟩:=zX hl;rfl
def w6 (K:PySem.W.Frag):Sp:=fun vs H Q _=>∃ (d:Int) (a:Addr) (rs:List Addr) (rss:List (List Int)) (l:Addr) (ls:List Bool),vs=[.int d,.ref a,.ref l]∧Mat H a rs rss∧SqL K H l (ls.map V.bl)∧zA d rss ls ∧
 ∀ H',j7 H H'→Q .non H'
theorem wD (T:Txt K mg t):qE P w K mg base CX0 2 t.f_zS t.fd_zS ["doors","ways","lamps"] (w6 K):=by
 refine T.F_zS.ok Qx (fun vs H Q E h=>?_) (fun cdv A outer s H vs Q E hr h=>?_)
 ·obtain ⟨d,a,rs,rss,l,ls,rfl,_⟩:=h;rfl
 ·obtain ⟨d,a,rs,rss,l,ls,rfl,M,hL,Vd,q⟩:=h;have hd1:=Vd.d1;have hd6:=Vd.d6;have hr1:=Vd.r1;have hr4:=Vd.r400;have hll:=Vd.ll;have hlen:(rs.map V.ref).length=rss.length:=by rw [List.length_map,M.len]
  refine ⟨_,j3 (jZ (jK (KL T) (hr.mono (by decide)) rfl T.mg_zR T.F_zR.kp (j00 T) .nil jP (j0 (pv 0) (j4))))
 (j3 (jH (i:=3) Qx.nd rfl (Or.inl rfl) (jI (jB K) rfl T.m_len PySem.boot_len (j0 (pv 1) (j4))))
 (j3 (jz (qo (vT J8 J8 (jG) (pv 3) (JK (v:=.int 400) rfl T.mg_MOST_ROOMS.choose_spec ⟨_,rfl⟩)))
 (j6 (yX))
 (jS))
 (j3 (jz (jX yg (jI (jB K) rfl T.m_len PySem.boot_len (j0 (pv 2) (j4))) (pv 3) (je _))
 (j6 (yX))
 (jS))
 (j6 (qC PassesOwn.never rfl (kC K rfl T.m_enumerate (j0 (pv 1) (j4))) (zq K (n:=2) rfl (qZ (jL (i:=4) Qx.nd rfl (Or.inl rfl)) (qZ (jL (i:=5) Qx.nd rfl (Or.inl rfl)) (zo))))
 (j3 (jz (jX yg (jI (jB K) rfl T.m_len PySem.boot_len (j0 (pv 5) (j4))) (pv 0) (je _))
 (j6 (yX))
 (jS))
 (j6 (qC PassesOwn.never rfl (jp K (pv 5)) (jL (i:=6) Qx.nd rfl (Or.inl rfl))
 (j6 (jz (qo (vT J8 xf (jG) (pv 6) (pv 3)))
 (j6 (yX))
 (jS))))))))))),?_⟩
  walk_at "w";refine ⟨d,rfl,hd1,hd6,?_⟩;walk_at "w";refine ⟨a,_,rfl,.inl (SqL.of M.top),?_⟩;rw [hlen];walk_at "w";refine qK (decide_eq_true (by omega)) ?_;walk_at "w";refine jU (by simp;omega) ?_;walk_at "w";refine ⟨l,_,rfl,.inl hL,?_⟩;walk_at "w";refine v7 rfl ?_;walk_at "w";refine jU (by simp [hll]) ?_;walk_at "w";refine ⟨a,rfl,⟨_,SqL.of M.top⟩,?_⟩;refine xQ (xs:=rs.map V.ref) (fun i σ H'=>j7 H H'∧∃ k1 k2 k3,σ=[some (.int d),some (.ref a),some (.ref l),some (.int (rss.length:Int)),k1,k2,k3]) ⟨j7.refl H,none,none,none,rfl⟩ (fun i σ H' _ p=>qa p.1 (SqL.of M.top)) (fun i x σ H' tp hx p ht=>?_) (fun σ H' p=>?_)
  ·obtain ⟨hs,k1,k2,k3,rfl⟩:=p;obtain ⟨r,rfl,hr'⟩:=jc hx;obtain ⟨hi,_⟩:=List.getElem?_eq_some_iff.mp hr';have hi':i < rss.length:=by rw [← M.len];exact hi
   have hrow:=M.row i r rss[i] hr' (List.getElem?_eq_getElem hi');have hs':j7 H (upd H' tp (.tup [.int (i:Int),.ref r])):=hs.trans (j7.upd_new ht);obtain ⟨hw1,hw2⟩:=Vd.row rss[i] (List.getElem_mem hi');refine ⟨tp,_,rfl,SqT.of j1,rfl,_,_,rfl,?_⟩;walk_at "w";refine ⟨_,_,rfl,?_⟩;walk_at "w";refine ⟨rfl,?_⟩;walk_at "w";refine ⟨r,_,rfl,.inl (SqL.of (hs' _ _ hrow)),?_⟩;walk_at "w";refine v7 rfl ?_;walk_at "w";refine jU (by simp [hw1]) ?_;walk_at "w";refine ⟨r,rfl,⟨_,SqL.of (hs' _ _ hrow)⟩,?_⟩;refine qT (xs:=rss[i].map V.int) (fun j σ H2=>H2=upd H' tp (.tup [.int (i:Int),.ref r])∧∃ k3,σ=[some (.int d),some (.ref a),some (.ref l),some (.int (rss.length:Int)),some (.int (i:Int)),some (.ref r),k3]) ⟨rfl,_,rfl⟩ (fun j σ H2 _ p=>by rw [p.1];exact SqL.of (hs' _ _ hrow)) (fun j x σ H2 hx p=>?_) (fun σ H2 p=>?_)
   ·obtain ⟨rfl,k3,rfl⟩:=p;have hx0:=qm hx;clear hx;obtain ⟨x,rfl,hx⟩:=hx0;obtain ⟨x0,x1⟩:=hw2 x (List.mem_of_getElem? hx);walk_at "w";refine qK (decide_eq_true x0) ?_;walk_at "w";refine jU (by simp [x1]) ?_;walk_at "w";exact ⟨rfl,_,rfl⟩
   ·obtain ⟨rfl,k3,rfl⟩:=p;exact ⟨hs',_,_,_,rfl⟩
  ·obtain ⟨hs,k1,k2,k3,rfl⟩:=p;exact q H' hs
theorem KQ:jM ["doors","word","door"] ["doors","word"] (j2 Jg):=⟨rfl,rfl,rfl,by decide +kernel,rfl,by decide +kernel,by decide +kernel⟩
theorem j0T (T:Txt K mg t):jd K t.fd_zX ["doors","word"] []:=T.F_zX.binds fun _ _ _ _ _ _ us hl=>by obtain ⟨_,_,rfl⟩:=y4 hl;rfl
def WE (K:PySem.W.Frag) (CB:Addr):Sp:=fun vs H Q E=>∃ (d:Int) (b:Addr) (ws:List Int),vs=[.int d,.ref b]∧SqL K H b (ws.map V.int)∧zi ws∧(jD d ws→Q .non H)∧(¬ jD d ws→E (.ref CB) none H)
theorem Xr (T:Txt K mg t):qE P w K mg base (CXr P w) 1 t.f_zX t.fd_zX ["doors","word"] (WE K t.C_BadWord):=by
 refine T.F_zX.okX KQ (fun vs H Q E h=>?_) (fun cdv A outer s H vs Q E hr h=>?_)
 ·obtain ⟨d,b,ws,rfl,_⟩:=h;rfl
 ·obtain ⟨d,b,ws,rfl,hS,sm,q,qe⟩:=h;have he:¬ jD d ws→∀ x:Str,([V.str x]:List V).length≤sizeLine∧E (.ref t.C_BadWord) none H:=fun nv x=>⟨show 1≤sizeLine by decide,qe nv⟩;refine ⟨_,j6 (qC yz.own rfl (jp K (pv 1)) (jL (i:=2) KQ.nd rfl (Or.inl rfl))
 (j6 (jz (qo (vT J8 xf (jG) (pv 2) (pv 0)))
 (j6 (xL YU rfl rfl T.mg_BadWord T.ex_BadWord.toExcCls (j0 (JD (Ur (pv 2) (VY (V0)))) (j4))))
 (jS)))),?_⟩
  walk_at "w";refine ⟨b,rfl,⟨_,hS⟩,?_⟩;refine qT (xs:=ws.map V.int) (fun i σ H'=>H'=H∧(∀ j,j < i→∀ x,ws[j]?=some x→0≤x∧x < d)∧∃ kv,σ=[some (.int d),some (.ref b),kv]) ⟨rfl,fun j hj=>absurd hj (Nat.not_lt_zero j),none,rfl⟩ (fun i σ H' _ p=>by rw [p.1];exact hS) (fun i x σ H' hx p=>?_) (fun σ H' p=>?_)
  ·obtain ⟨rfl,done,kv,rfl⟩:=p;have hx0:=qm hx;clear hx;obtain ⟨x,rfl,hx⟩:=hx0;obtain ⟨s0,s1⟩:=sm x (List.mem_of_getElem? hx);have nv:¬ (0≤x∧x < d)→¬ jD d ws:=fun nx V=>nx (V x (List.mem_of_getElem? hx));walk_at "w";refine yo (fun x0=>?_) (fun x0=>?_)
   rotate_left
   ·walk_at "w";refine qK rfl ?_;walk_at "w";refine ⟨_,rfl,kU s0 s1,?_⟩;walk_at "w";exact he (nv fun z=>by have:=z.1;simp at x0;omega)
   have x0:=of_decide_eq_true x0;walk_at "w";refine yo (fun x1=>?_) (fun x1=>?_)
   ·walk_at "w";refine ⟨_,rfl,kU s0 s1,?_⟩;walk_at "w";exact he (nv fun z=>by have:=z.2;simp at x1;omega)
   have x1:x < d:=by simpa using x1
   walk_at "w";refine ⟨rfl,fun j hj y hy=>?_,_,rfl⟩;rcases Nat.lt_or_ge j i with hji | hji
   ·exact done j hji y hy
   ·have:j=i:=by omega
    subst this;rw [hx] at hy;cases hy;exact ⟨x0,x1⟩
  ·obtain ⟨rfl,done,kv,rfl⟩:=p;refine q fun x hx=>?_;obtain ⟨j,hj⟩:=List.getElem?_of_mem hx;refine done j ?_ x hj;obtain ⟨hj1,_⟩:=List.getElem?_eq_some_iff.mp hj;rw [List.length_map];exact hj1
theorem j0K:jM ["self","doors","ways","lamps"] ["self","doors","ways","lamps"] (j2 kM):=⟨rfl,rfl,rfl,by decide +kernel,rfl,by decide +kernel,by decide +kernel⟩
theorem j0R (T:Txt K mg t):jd K t.fd_zY ["self","doors","ways","lamps"] []:=T.F_zY.binds fun _ _ _ _ _ _ us hl=>by obtain ⟨_,_,_,_,rfl⟩:=xp hl;rfl
def WN (K:PySem.W.Frag) (C:Addr):Sp:=fun vs H Q _=>∃ (p dx:Addr) (d:Int) (a:Addr) (rs:List Addr) (rss:List (List Int)) (l:Addr) (ls:List Bool),vs=[.ref p,.int d,.ref a,.ref l]∧H p=some (.ins C dx [])∧Mat H a rs rss∧SqL K H l (ls.map V.bl)∧zA d rss ls ∧
 ∀ (H':Hp) (aw:Addr) (rs':List Addr) (al:Addr),qX C H' p d aw rs' rss al ls→(∀ b o,H b=some o→b≠p→H' b=some o)→(∀ b∈al :: aw :: rs',H b=none)→Q .non H'
theorem Ki (T:Txt K mg t):qE P w K mg base CX0 3 t.f_zY t.fd_zY ["self","doors","ways","lamps"] (WN K t.C_House):=by
 refine T.F_zY.ok j0K (fun vs H Q E h=>?_) (fun cdv A outer s H vs Q E hr h=>?_)
 ·obtain ⟨p,dx,d,a,rs,rss,l,ls,rfl,_⟩:=h;rfl
 ·obtain ⟨p,dx,d,a,rs,rss,l,ls,rfl,hp,M,hL,Vd,q⟩:=h;refine ⟨_,j3 (jZ (jK (wD T) (hr.mono (by decide)) rfl T.mg_zS T.F_zS.kp (j0q T) .nil jP (j0 (pv 1) (j0 (pv 2) (j0 (pv 3) (j4))))))
 (j3 (qx K (pv 0) (pv 1) rfl)
 (j3 (qx K (pv 0) (yS (N:=["self","doors","ways","lamps"]) (sc0:=(j2 kM)) (N':=["row"]) (caps:=[none]) (by exact ⟨rfl,by decide +kernel,by decide +kernel,by decide +kernel,rfl,rfl,by decide +kernel⟩) rfl (jp K (pv 2)) (fun _ _ _ _ _ _=>jL (i:=0) (show List.Nodup (["row"]:List Str) from by decide +kernel) rfl (Or.inl rfl)) (fun _ _ _ _ _ _=>qG (yw K) rfl T.m_list boot_list (j0 (pv 0) (j4)))) rfl)
 (j6 (qx K (pv 0) (qG (yw K) rfl T.m_list boot_list (j0 (pv 3) (j4))) rfl)))),?_⟩
  walk_at "w";refine ⟨d,a,rs,rss,l,ls,rfl,M,hL,Vd,fun H1 hs1=>?_⟩;walk_at "w";refine ⟨p,_,dx,_,rfl,hs1 _ _ hp,T.cl_House,T.na_House_doors,(by show 0 < 1000;decide),?_⟩;walk_at "w";have hpa:∀ {b:Addr} {xs:List V},H b=some (.lst xs)→b≠p:=fun e=>vR e hp (by intro z;cases z);have k1:∀ (b:Addr) (o:HO),H b=some o→b≠p→(upd H1 p (.ins t.C_House dx (jo "doors" (.int d) []))) b=some o:=fun b o e hb=>by rw [j5 hb];exact hs1 b o e
  have n1:∀ b,(upd H1 p (.ins t.C_House dx (jo "doors" (.int d) []))) b=none→H b=none:=fun b e=>by
   by_cases hb:b=p
   ·subst hb;rw [j1] at e;cases e
   ·rw [j5 hb] at e;exact hs1.free e
  generalize hH2:upd H1 p (.ins t.C_House dx (jo "doors" (.int d) []))=H2 at k1 n1 ⊢;have hp2:H2 p=some (.ins t.C_House dx (jo "doors" (.int d) [])):=by rw [← hH2];exact j1
  have M2:Mat H2 a rs rss:=⟨k1 _ _ M.top (hpa M.top),M.len,fun i r row h1 h2=>k1 _ _ (M.row i r row h1 h2) (hpa (M.row i r row h1 h2)),M.nd⟩;refine ⟨a,rfl,⟨_,SqL.of M2.top⟩,?_⟩;have h400:=Vd.r400;refine ZT M2 (by omega) fun aw rs' H' hs3 M3 new3=>?_;have G:j7 H2 H':=hs3
  (
   have hp3:H' p=some (.ins t.C_House dx (jo "doors" (.int d) [])):=G _ _ hp2;walk_at "w";refine ⟨p,_,dx,_,rfl,hp3,T.cl_House,T.na_House_ways,(by show 1 < 1000;decide),?_⟩;walk_at "w";have hl3:SqL K H l (ls.map V.bl):=hL;have hlist:SqL K (upd H' p (.ins t.C_House dx (jo "ways" (.ref aw) (jo "doors" (.int d) [])))) l (ls.map V.bl):=by
    rcases hL with (hL | ⟨ob,hL⟩) | hL
    ·exact .inl (.inl (by rw [j5 (hpa hL)];exact G _ _ (k1 _ _ hL (hpa hL))))
    ·have hne:l≠p:=vR hL hp (by intro z;cases z);exact .inl (.inr ⟨ob,by rw [j5 hne];exact G _ _ (k1 _ _ hL hne)⟩)
    ·exact .inr hL
   refine ⟨l,_,rfl,.inl hlist,fun al hal=>?_⟩;walk_at "w";have npa:p≠al:=fun z=>by rw [z,j1] at hal;cases hal
   have hal':H' al=none:=by rw [j5 (Ne.symm npa)] at hal;exact hal
   refine ⟨p,_,dx,_,rfl,(by rw [j5 npa];exact j1),T.cl_House,T.na_House_lamps,(by have h1:=yJ "ways" (.ref aw) (jo "doors" (.int d) []);have h2:=yJ "doors" (.int d) [];simp only [List.length_nil] at h2;omega),?_⟩;have hpm:p∉aw :: rs':=fun hm=>by have:=new3 p hm;rw [hp2] at this;cases this
   have ham:al∉aw :: rs':=fun hm=>by obtain ⟨o,e⟩:=M3.mem hm;rw [e] at hal';cases hal'
   refine q _ aw rs' al ⟨⟨dx,j1⟩,((M3.upd hpm).upd ham).upd hpm,?_⟩ (fun b o e hb=>?_) (fun b hb=>?_)
   ·rw [j5 (Ne.symm npa),j1]
   ·have e2:=G _ _ (k1 b o e hb);rw [j5 hb,j5 (jA e2 hal'),j5 hb];exact e2
   ·rcases List.mem_cons.mp hb with rfl | hb
    ·exact n1 _ (G.free hal')
    ·exact n1 _ (new3 b hb)
  )
theorem wW:jM ["self"] ["self"] (j2 QJ):=⟨rfl,rfl,rfl,by decide +kernel,rfl,by decide +kernel,by decide +kernel⟩
theorem j0y (T:Txt K mg t):jd K t.fd_zT ["self"] []:=T.F_zT.binds fun _ _ _ _ _ _ us hl=>by obtain ⟨_,rfl⟩:=zf hl;rfl
def WR (C:Addr):Sp:=fun vs H Q _=>∃ (p:Addr) (d:Int) (aw:Addr) (rs:List Addr) (rss:List (List Int)) (al:Addr) (ls:List Bool),vs=[.ref p]∧qX C H p d aw rs rss al ls∧Q (.int rss.length) H
theorem j0U (T:Txt K mg t):qE P w K mg base CX0 1 t.f_zT t.fd_zT ["self"] (WR t.C_House):=by
 refine T.F_zT.ok wW (fun vs H Q E h=>?_) (fun cdv A outer s H vs Q E hr h=>?_)
 ·obtain ⟨p,d,aw,rs,rss,al,ls,rfl,_⟩:=h;rfl
 ·obtain ⟨p,d,aw,rs,rss,al,ls,rfl,hh,q⟩:=h;obtain ⟨dx,ho⟩:=hh.ob;refine ⟨_,j6 (jO (jI (jB K) rfl T.m_len PySem.boot_len (j0 (jJ K (pv 0) rfl) (j4)))),?_⟩;walk_at "w";refine ⟨_,rfl,p,_,dx,_,_,rfl,ho,T.cl_House,T.na_House_ways,yO _ _ _,?_⟩;walk_at "w";refine ⟨aw,_,rfl,.inl (SqL.of hh.ways.top),?_⟩;rw [List.length_map,hh.ways.len];exact q
theorem Vj:jM ["self","word","walked","door"] ["self","word"] (j2 Jp):=⟨rfl,rfl,rfl,by decide +kernel,rfl,by decide +kernel,by decide +kernel⟩
theorem j18 (T:Txt K mg t):jd K t.fd_zU ["self","word"] []:=T.F_zU.binds fun _ _ _ _ _ _ us hl=>by obtain ⟨_,_,rfl⟩:=y4 hl;rfl
def wK (K:PySem.W.Frag) (C CB:Addr):Sp:=fun vs H Q E=>∃ (p:Addr) (d:Int) (aw:Addr) (rs:List Addr) (rss:List (List Int)) (al:Addr) (ls:List Bool) (b:Addr) (ws:List Int),vs=[.ref p,.ref b]∧qX C H p d aw rs rss al ls∧Ways d rss∧0 < rss.length ∧
 SqL K H b (ws.map V.int)∧zi ws∧ws.length≤900∧(jD d ws→∀ l,H l=none→Q (.ref l) (upd H l (.lst ((Ja rss ws).map V.int))))∧(¬ jD d ws→E (.ref CB) none H)
theorem Wf (T:Txt K mg t):qE P w K mg base (CXr P w) 2 t.f_zU t.fd_zU ["self","word"] (wK K t.C_House t.C_BadWord):=by
 refine T.F_zU.okX Vj (fun vs H Q E h=>?_) (fun cdv A outer s H vs Q E hr h=>?_)
 ·obtain ⟨p,d,aw,rs,rss,al,ls,b,ws,rfl,_⟩:=h;rfl
 ·obtain ⟨p,d,aw,rs,rss,al,ls,b,ws,rfl,hh,W,hpos,hS,sm,hl,q,qe⟩:=h;obtain ⟨dx,ho⟩:=hh.ob;refine ⟨_,j3 (jZ (jK (Xr T) (hr.mono (by decide)) rfl T.mg_zX T.F_zX.kp (j0T T) .nil yz.pass (j0 (jJ K (pv 0) rfl) (j0 (pv 1) (j4)))))
 (j3 (jH (i:=2) Vj.nd rfl (Or.inl rfl) (jg (j0 (jG) (j4))))
 (j3 (qC yz.own rfl (jp K (pv 1)) (jL (i:=3) Vj.nd rfl (Or.inl rfl))
 (j6 (jZ (qc K PySem.F.plainAttrs_list PySem.F.slot_list_append PySem.F.type_list_append jj (pv 2) (j0 (jb (jE K) (jb (jE K) (jJ K (pv 0) rfl) (jb (jE K) (pv 2) (KA Vu (jG)) (fun _ _=>rfl)) (fun _ _=>rfl)) (pv 3) (fun _ _=>rfl)) (j4))))))
 (j6 (jO (pv 2))))),?_⟩
  walk_at "w";refine ⟨_,rfl,p,_,dx,_,_,rfl,ho,T.cl_House,T.na_House_doors,yd _ _ _,?_⟩;walk_at "w";refine ⟨d,b,ws,rfl,hS,sm,fun hw=>?_,fun nw=>qe nw⟩;walk_at "w";refine ⟨by show 1≤sizeLine;decide,fun l hl0=>?_⟩;walk_at "w";have hne:∀ {x:Addr} {o:HO},H x=some o→x≠l:=fun e=>jA e hl0;have hs:∀ o,j7 H (upd H l o):=fun o=>j7.upd_new hl0;refine ⟨b,rfl,⟨_,qa (hs _) hS⟩,?_⟩;refine qT (xs:=ws.map V.int) (fun i σ H'=>H'=upd H l (.lst (((List.range (i+1)).map fun j=>jF rss 0 (ws.take j)).map V.int))∧∃ kv,σ=[some (.ref p),some (.ref b),some (.ref l),kv]) ⟨rfl,none,rfl⟩ (fun i σ H' _ p=>by rw [p.1];exact qa (hs _) hS) (fun i x σ H' hx p=>?_) (fun σ H' p=>?_)
  ·obtain ⟨rfl,kv,rfl⟩:=p;have hx0:=qm hx;clear hx;obtain ⟨x,rfl,hx⟩:=hx0;obtain ⟨x0,x1⟩:=hw x (List.mem_of_getElem? hx);obtain ⟨b0,b1⟩:=q0 W (hw.take i) (Int.le_refl 0) (by omega);obtain ⟨row,e1,e2,_,_⟩:=yT W b0 b1 x0 x1;obtain ⟨r,e3,e4,e5⟩:=hh.ways.get e1;have hi:i < ws.length:=(List.getElem?_eq_some_iff.mp hx).1;have elast:((List.range (i+1)).map fun j=>jF rss 0 (ws.take j)).map V.int=(((List.range i).map fun j=>jF rss 0 (ws.take j)).map V.int)++[V.int (jF rss 0 (ws.take i))]:=by
    rw [qS,List.map_append];rfl
   walk_at "w";refine ⟨.inl ⟨rfl,_,SqL.of j1⟩,?_⟩;walk_at "w";refine ⟨_,rfl,p,_,dx,_,_,rfl,hs _ _ _ ho,T.cl_House,T.na_House_ways,yO _ _ _,?_⟩;walk_at "w";refine ji (SqL.of j1) (by rw [elast];exact Qm _ _) ?_;walk_at "w";refine ji (SqL.of (hs _ _ _ hh.ways.top)) (js b0 e4) ?_;walk_at "w";refine ji (SqL.of (hs _ _ _ e5)) (js x0 (qL e2)) ?_;walk_at "w";refine ⟨l,_,_,rfl,rfl,j1,yH (by simp;omega),?_⟩;refine ⟨?_,_,rfl⟩;rw [yr,qS (fun j=>jF rss 0 (ws.take j)) (i+1),J6 hx,qO,List.map_append];rfl
  ·obtain ⟨rfl,kv,rfl⟩:=p;walk_at "w";have:=q hw l hl0;unfold Ja at this;rw [List.length_map];exact this
theorem wc:jM ["self","word"] ["self","word"] (j2 QO):=⟨rfl,rfl,rfl,by decide +kernel,rfl,by decide +kernel,by decide +kernel⟩
theorem j0h (T:Txt K mg t):jd K t.fd_zJ ["self","word"] []:=T.F_zJ.binds fun _ _ _ _ _ _ us hl=>by obtain ⟨_,_,rfl⟩:=y4 hl;rfl
def Ww (K:PySem.W.Frag) (C CB:Addr):Sp:=fun vs H Q E=>∃ (p:Addr) (d:Int) (aw:Addr) (rs:List Addr) (rss:List (List Int)) (al:Addr) (ls:List Bool) (b:Addr) (ws:List Int),vs=[.ref p,.ref b]∧qX C H p d aw rs rss al ls∧Ways d rss∧0 < rss.length ∧
 SqL K H b (ws.map V.int)∧zi ws∧ws.length≤900∧(jD d ws→∀ H',j7 H H'→Q (.int (jF rss 0 ws)) H')∧(¬ jD d ws→E (.ref CB) none H)
theorem WT (T:Txt K mg t):qE P w K mg base (CXr P w) 3 t.f_zJ t.fd_zJ ["self","word"] (Ww K t.C_House t.C_BadWord):=by
 refine T.F_zJ.okX wc (fun vs H Q E h=>?_) (fun cdv A outer s H vs Q E hr h=>?_)
 ·obtain ⟨p,d,aw,rs,rss,al,ls,b,ws,rfl,_⟩:=h;rfl
 ·obtain ⟨p,d,aw,rs,rss,al,ls,b,ws,rfl,hh,W,hpos,hS,sm,hl,q,qe⟩:=h;obtain ⟨dx,ho⟩:=hh.ob;refine ⟨_,j6 (jO (jb (jE K) (qY (pv 0) T.cl_House T.me_zU (Wf T) (hr.mono (by decide)) (j18 T) .nil yz.pass (j0 (pv 1) (j4))) (KA Vu (jG)) (fun _ _=>rfl))),?_⟩;walk_at "w";refine ⟨p,dx,_,rfl,ho,vc _ _ _ (by decide +kernel) (by decide +kernel) (by decide +kernel),?_⟩;walk_at "w";refine ⟨p,d,aw,rs,rss,al,ls,b,ws,rfl,hh,W,hpos,hS,sm,hl,fun hw l hl0=>?_,fun nw=>qe nw⟩;walk_at "w";have elast:(Ja rss ws).map V.int=(((List.range ws.length).map fun j=>jF rss 0 (ws.take j)).map V.int)++[V.int (jF rss 0 ws)]:=by
   unfold Ja;rw [qS,List.map_append,List.take_length];rfl
  refine ji (SqL.of j1) (by rw [elast];exact Qm _ _) ?_;exact q hw _ (j7.upd_new hl0)
theorem j06:jM ["self","word"] ["self","word"] (j2 QC):=⟨rfl,rfl,rfl,by decide +kernel,rfl,by decide +kernel,by decide +kernel⟩
theorem UH (T:Txt K mg t):jd K t.fd_zZ ["self","word"] []:=T.F_zZ.binds fun _ _ _ _ _ _ us hl=>by obtain ⟨_,_,rfl⟩:=y4 hl;rfl
def wT (K:PySem.W.Frag) (C CB:Addr):Sp:=fun vs H Q E=>∃ (p:Addr) (d:Int) (aw:Addr) (rs:List Addr) (rss:List (List Int)) (al:Addr) (ls:List Bool) (b:Addr) (ws:List Int),vs=[.ref p,.ref b]∧qX C H p d aw rs rss al ls∧Ways d rss∧0 < rss.length∧ls.length=rss.length ∧
 SqL K H b (ws.map V.int)∧zi ws∧ws.length≤900∧(jD d ws→∀ H',j7 H H'→Q (.bl (ls.getD (jF rss 0 ws).toNat false)) H')∧(¬ jD d ws→E (.ref CB) none H)
theorem VS (T:Txt K mg t):qE P w K mg base (CXr P w) 4 t.f_zZ t.fd_zZ ["self","word"] (wT K t.C_House t.C_BadWord):=by
 refine T.F_zZ.okX j06 (fun vs H Q E h=>?_) (fun cdv A outer s H vs Q E hr h=>?_)
 ·obtain ⟨p,d,aw,rs,rss,al,ls,b,ws,rfl,_⟩:=h;rfl
 ·obtain ⟨p,d,aw,rs,rss,al,ls,b,ws,rfl,hh,W,hpos,hll,hS,sm,hl,q,qe⟩:=h;obtain ⟨dx,ho⟩:=hh.ob;refine ⟨_,j6 (jO (jb (jE K) (jJ K (pv 0) rfl) (qY (pv 0) T.cl_House T.me_zJ (WT T) (hr.mono (by decide)) (j0h T) .nil yz.pass (j0 (pv 1) (j4))) (fun _ _=>rfl))),?_⟩;walk_at "w";refine ⟨_,rfl,p,_,dx,_,_,rfl,ho,T.cl_House,T.na_House_lamps,zG _ _ _,?_⟩;walk_at "w";refine ⟨p,dx,_,rfl,ho,vc _ _ _ (by decide +kernel) (by decide +kernel) (by decide +kernel),?_⟩;walk_at "w";refine ⟨p,d,aw,rs,rss,al,ls,b,ws,rfl,hh,W,hpos,hS,sm,hl,fun hw H1 hs=>?_,fun nw=>qe nw⟩;obtain ⟨b0,b1⟩:=q0 W hw (Int.le_refl 0) (by omega);have hi:(jF rss 0 ws).toNat < ls.length:=by omega
  refine ji (SqL.of (hs _ _ hh.lamps)) (js b0 (yh (List.getElem?_eq_getElem hi))) ?_;have:=q hw H1 hs;rw [List.getD_eq_getElem?_getD,List.getElem?_eq_getElem hi,Option.getD_some] at this;exact this
theorem KF:jM ["links","room"] ["links","room"] (j2 Ju):=⟨rfl,rfl,rfl,by decide +kernel,rfl,by decide +kernel,by decide +kernel⟩
theorem j02 (T:Txt K mg t):jd K t.fd_zp ["links","room"] []:=T.F_zp.binds fun _ _ _ _ _ _ us hl=>by obtain ⟨_,_,rfl⟩:=y4 hl;rfl
structure UF (ls:List Int) (root dist:Nat→Nat):Prop where
 rng:∀ (i:Nat) (x:Int),ls[i]?=some x→0≤x∧x < ls.length
 fall:∀ (i:Nat) (x:Int),ls[i]?=some x→x≠(i:Int)→dist x.toNat < dist i
 same:∀ (i:Nat) (x:Int),ls[i]?=some x→root x.toNat=root i
 fix:∀ (i:Nat) (x:Int),ls[i]?=some x→x=(i:Int)→root i=i
theorem UF.halve {ls:List Int} {root dist:Nat→Nat} (U:UF ls root dist) {i j:Nat} {y:Int} (hi:ls[i]?=some (j:Int)) (hj:ls[j]?=some y) (hne:(j:Int)≠(i:Int)):UF (ls.set i y) root dist:=by
 have get:∀ {k:Nat} {x:Int},(ls.set i y)[k]?=some x→(k=i∧x=y)∨(k≠i∧ls[k]?=some x):=fun {k x} h=>by
  by_cases e:i=k
  ·subst e;rw [List.getElem?_set] at h;simp only [if_true] at h
   split at h <;> cases h
   exact .inl ⟨rfl,rfl⟩
  ·rw [List.getElem?_set_ne e] at h;exact .inr ⟨Ne.symm e,h⟩
 have hdj:dist y.toNat≤dist j:=by
  by_cases e:y=(j:Int)
  ·rw [e];exact Nat.le_of_eq (congrArg dist (by omega))
  ·exact Nat.le_of_lt (U.fall j y hj e)
 have hji:dist j < dist i:=by have:=U.fall i j hi hne;rwa [Int.toNat_natCast] at this
 have hri:root j=root i:=by have:=U.same i j hi;rwa [Int.toNat_natCast] at this
 refine ⟨fun k x h=>?_,fun k x h hx=>?_,fun k x h=>?_,fun k x h hx=>?_⟩
 ·rw [List.length_set];rcases get h with ⟨_,rfl⟩ | ⟨_,h⟩
  ·exact U.rng j _ hj
  ·exact U.rng k x h
 ·rcases get h with ⟨rfl,rfl⟩ | ⟨_,h⟩
  ·omega
  ·exact U.fall k x h hx
 ·rcases get h with ⟨rfl,rfl⟩ | ⟨_,h⟩
  ·exact (U.same j _ hj).trans hri
  ·exact U.same k x h
 ·rcases get h with ⟨rfl,rfl⟩ | ⟨_,h⟩
  ·exfalso;have:dist k≤dist j:=by rw [hx,Int.toNat_natCast] at hdj;exact hdj
   omega
  ·exact U.fix k x h hx
def WP:Sp:=fun vs H Q _=>∃ (la:Addr) (ls:List Int) (root dist:Nat→Nat) (r:Nat),vs=[.ref la,.int (r:Int)]∧H la=some (.lst (ls.map V.int))∧UF ls root dist∧r < ls.length ∧
 ∀ ls',UF ls' root dist→ls'.length=ls.length→root (root r)=root r→root r < ls.length→Q (.int (root r:Int)) (upd H la (.lst (ls'.map V.int)))
theorem Xx (T:Txt K mg t):qE P w K mg base CX0 1 t.f_zp t.fd_zp ["links","room"] (WP):=by
 refine T.F_zp.ok KF (fun vs H Q E h=>?_) (fun cdv A outer s H vs Q E hr h=>?_)
 ·obtain ⟨la,ls,root,dist,r,rfl,_⟩:=h;rfl
 ·obtain ⟨la,ls,root,dist,r,rfl,hla,U,hr,q⟩:=h;refine ⟨_,j3 (y9 PassesOwn.never (jX yg (jb (jE K) (pv 0) (pv 1) (fun _ _=>rfl)) (pv 1) (je _))
 (j3 (VG (jb (jE K) (pv 0) (jb (jE K) (pv 0) (pv 1) (fun _ _=>rfl)) (fun _ _=>rfl)) (Zk (pv 0) (pv 1) Qr))
 (j6 (jH (i:=1) KF.nd rfl (Or.inl rfl) (jb (jE K) (pv 0) (pv 1) (fun _ _=>rfl))))))
 (j6 (jO (pv 1))),?_⟩
  walk_at "w";have hset:∀ {H':Hp} {xs:List V},upd H' la (.lst xs) la=some (.lst xs):=j1;refine ⟨fun m σ H'=>∃ (x:Nat) (ls':List Int),m=dist x∧root x=root r∧x < ls.length∧UF ls' root dist∧ls'.length=ls.length∧H'=upd H la (.lst (ls'.map V.int))∧σ=[some (.ref la),some (.int (x:Int))],⟨_,r,ls,rfl,rfl,hr,U,rfl,?_,rfl⟩,?_⟩
  ·funext b
   by_cases hb:b=la
   ·subst hb;rw [j1];exact hla
   ·rw [j5 hb]
  rintro m σ H1 ⟨x,ls',rfl,hx,hxl,U',hl',rfl,rfl⟩
  have hxl':x < ls'.length:=by omega
  obtain ⟨y,hy⟩:∃ y,ls'[x]?=some y:=⟨_,List.getElem?_eq_getElem hxl'⟩;obtain ⟨y0,y1⟩:=U'.rng x y hy;walk_at "w";refine ji (SqL.of j1) (jY (j:=x) (qL hy)) ?_;walk_at "w";refine v7 rfl ?_;walk_at "w";refine yo (fun hc=>?_) (fun hc=>?_)
  ·have hc:y≠(x:Int):=by intro z;rw [z] at hc;simp at hc
   obtain ⟨j,rfl⟩:∃ j:Nat,y=(j:Int):=⟨y.toNat,by omega⟩;obtain ⟨z,hz⟩:∃ z,ls'[j]?=some z:=⟨_,List.getElem?_eq_getElem (by omega)⟩;obtain ⟨z0,z1⟩:=U'.rng j z hz;obtain ⟨zn,rfl⟩:∃ zn:Nat,z=(zn:Int):=⟨z.toNat,by omega⟩;have Uh:=U'.halve hy hz hc;have d1:=U'.fall x j hy hc;have r1:=U'.same x j hy;have r2:=U'.same j zn hz;rw [Int.toNat_natCast] at d1 r1 r2;have d2:dist zn≤dist j:=by
    by_cases e:(zn:Int)=(j:Int)
    ·exact Nat.le_of_eq (congrArg dist (by omega))
    ·have:=U'.fall j zn hz e;rw [Int.toNat_natCast] at this;omega
   refine ⟨fun σ' H'=>∃ ls2:List Int,UF ls2 root dist∧ls2.length=ls.length∧H'=upd H la (.lst (ls2.map V.int))∧σ'=[some (.ref la),some (.int (zn:Int))],fun σ' H' ⟨ls2,u1,u2,u3,u4⟩=>⟨dist zn,by omega,zn,ls2,rfl,by rw [r2,r1,hx],by omega,u1,u2,u3,u4⟩,?_⟩;walk_at "w";refine ji (SqL.of j1) (jY (j:=x) (qL hy)) ?_;walk_at "w";refine ji (SqL.of j1) (jY (j:=j) (qL hz)) ?_;walk_at "w";refine ⟨la,_,_,x,rfl,rfl,j1,by unfold ixN;rw [if_pos (by omega),if_pos (by rw [List.length_map];omega)];simp,?_⟩;rw [yr,← List.map_set];walk_at "w";refine ji (SqL.of j1) (jY (j:=x) (v:=.int (zn:Int)) (qL (by rw [List.getElem?_set_self hxl']))) ?_;walk_at "w";exact ⟨_,Uh,by rw [List.length_set];exact hl',rfl,rfl⟩
  ·have hc:y=(x:Int):=by simpa using hc
   have hf:=U'.fix x y hy hc;walk_at "w";rw [show (x:Int)=(root r:Int) by rw [← hx,hf]];exact q ls' U' hl' (by rw [← hx,hf,hf]) (by rw [← hx,hf];exact hxl)
theorem VZ:jM ["links","one","other","first","second"] ["links","one","other"] (j2 JY):=⟨rfl,rfl,rfl,by decide +kernel,rfl,by decide +kernel,by decide +kernel⟩
theorem j0B (T:Txt K mg t):jd K t.fd_zN ["links","one","other"] []:=T.F_zN.binds fun _ _ _ _ _ _ us hl=>by obtain ⟨_,_,_,rfl⟩:=zX hl;rfl
theorem UF.link {ls:List Int} {root dist:Nat→Nat} (U:UF ls root dist) {f g:Nat} (hf:root f=f) (hg:root g=g) (hfl:f < ls.length) (hgl:g < ls.length) :
  ∃ dist',UF (ls.set g (f:Int)) (fun x=>if root x=g then f else root x) dist':=by
 have get:∀ {k:Nat} {x:Int},(ls.set g (f:Int))[k]?=some x→(k=g∧x=(f:Int))∨(k≠g∧ls[k]?=some x):=fun {k x} h=>by
  by_cases e:g=k
  ·subst e;rw [List.getElem?_set] at h;simp only [if_true] at h;rw [if_pos hgl] at h;cases h;exact .inl ⟨rfl,rfl⟩
  ·rw [List.getElem?_set_ne e] at h;exact .inr ⟨Ne.symm e,h⟩
 by_cases hfg:f=g
 ·subst hfg;refine ⟨dist,⟨fun k x h=>?_,fun k x h hx=>?_,fun k x h=>?_,fun k x h hx=>?_⟩⟩
  ·rw [List.length_set];rcases get h with ⟨_,rfl⟩ | ⟨_,h⟩
   ·omega
   ·exact U.rng k x h
  ·rcases get h with ⟨rfl,rfl⟩ | ⟨_,h⟩
   ·exact absurd rfl hx
   ·exact U.fall k x h hx
  ·rcases get h with ⟨rfl,rfl⟩ | ⟨_,h⟩
   ·rw [Int.toNat_natCast]
   ·rw [U.same k x h]
  ·rcases get h with ⟨rfl,rfl⟩ | ⟨_,h⟩
   ·rw [if_pos hf]
   ·have:=U.fix k x h hx;rw [this];split <;> simp_all
 ·refine ⟨fun x=>if root x=g then dist x+dist f+1 else dist x,⟨fun k x h=>?_,fun k x h hx=>?_,fun k x h=>?_,fun k x h hx=>?_⟩⟩
  ·rw [List.length_set];rcases get h with ⟨_,rfl⟩ | ⟨_,h⟩
   ·omega
   ·exact U.rng k x h
  ·rcases get h with ⟨rfl,rfl⟩ | ⟨_,h⟩
   ·rw [Int.toNat_natCast,hf,if_neg hfg,if_pos hg];omega
   ·rw [U.same k x h];have:=U.fall k x h hx
    split <;> omega
  ·rcases get h with ⟨rfl,rfl⟩ | ⟨_,h⟩
   ·rw [Int.toNat_natCast,hf,if_neg hfg,if_pos hg]
   ·rw [U.same k x h]
  ·rcases get h with ⟨rfl,rfl⟩ | ⟨hk,h⟩
   ·exact absurd (by omega) hfg
   ·have:=U.fix k x h hx;rw [this,if_neg hk]
def wn:Sp:=fun vs H Q _=>∃ (la:Addr) (ls:List Int) (root dist:Nat→Nat) (x y:Nat),vs=[.ref la,.int (x:Int),.int (y:Int)]∧H la=some (.lst (ls.map V.int))∧UF ls root dist∧x < ls.length∧y < ls.length ∧
 ∀ ls' dist',UF ls' (fun z=>if root z=root y then root x else root z) dist'→ls'.length=ls.length→Q (.bl (!decide (root x=root y))) (upd H la (.lst (ls'.map V.int)))
theorem Kj (T:Txt K mg t):qE P w K mg base CX0 2 t.f_zN t.fd_zN ["links","one","other"] (wn):=by
 refine T.F_zN.ok VZ (fun vs H Q E h=>?_) (fun cdv A outer s H vs Q E hr h=>?_)
 ·obtain ⟨la,ls,root,dist,x,y,rfl,_⟩:=h;rfl
 ·obtain ⟨la,ls,root,dist,x,y,rfl,hla,U,hx,hy,q⟩:=h;refine ⟨_,j3 (jH (i:=3) VZ.nd rfl (Or.inl rfl) (jK (Xx T) (hr.mono (by decide)) rfl T.mg_zp T.F_zp.kp (j02 T) .nil jP (j0 (pv 0) (j0 (pv 1) (j4)))))
 (j3 (jH (i:=4) VZ.nd rfl (Or.inl rfl) (jK (Xx T) (hr.mono (by decide)) rfl T.mg_zp T.F_zp.kp (j02 T) .nil jP (j0 (pv 0) (j0 (pv 2) (j4)))))
 (j3 (VG (pv 3) (Zk (pv 0) (pv 4) Qr))
 (j6 (jO (vS yg (pv 3) (pv 4) (je _)))))),?_⟩
  walk_at "w";refine ⟨la,ls,root,dist,x,rfl,hla,U,hx,fun l1 U1 h1 rr1 rl1=>?_⟩;walk_at "w";refine ⟨la,l1,root,dist,y,rfl,j1,U1,by omega,fun l2 U2 h2 rr2 rl2=>?_⟩;rw [yr];walk_at "w";refine ⟨la,_,_,root y,rfl,rfl,j1,by unfold ixN;rw [if_pos (by omega),if_pos (by rw [List.length_map];omega)];simp,?_⟩;rw [yr,← List.map_set];walk_at "w";refine v7 rfl ?_;obtain ⟨dist',U'⟩:=U2.link rr1 rr2 (by omega) (by omega);have e:(!decide ((V.int (root x:Int))=V.int (root y:Int)))=!decide (root x=root y):=by
   by_cases z:root x=root y
   ·simp [z]
   ·have z':¬ ((root x:Int)=(root y:Int)):=by omega
    simp [z,z']
  rw [e];exact q _ dist' U' (by rw [List.length_set];omega)
theorem xO:jM ["ways","pairs","links","further","one","other","word","door","way"] ["ways","pairs","links"] (j2 JT):=⟨rfl,rfl,rfl,by decide +kernel,rfl,by decide +kernel,by decide +kernel⟩
theorem j1F (T:Txt K mg t):jd K t.fd_zO ["ways","pairs","links"] []:=T.F_zO.binds fun _ _ _ _ _ _ us hl=>by obtain ⟨_,_,_,rfl⟩:=zX hl;rfl
theorem UF.idem {ls:List Int} {root dist:Nat→Nat} (U:UF ls root dist):∀ (n r:Nat),dist r≤n→r < ls.length→root (root r)=root r∧root r < ls.length:=by
 intro n
 induction n with
 | zero =>
  intro r hd hr;obtain ⟨x,hx⟩:∃ x,ls[r]?=some x:=⟨_,List.getElem?_eq_getElem hr⟩
  by_cases e:x=(r:Int)
  ·have:=U.fix r x hx e;rw [this,this];exact ⟨rfl,hr⟩
  ·have:=U.fall r x hx e;omega
 | succ n ih =>
  intro r hd hr;obtain ⟨x,hx⟩:∃ x,ls[r]?=some x:=⟨_,List.getElem?_eq_getElem hr⟩
  by_cases e:x=(r:Int)
  ·have:=U.fix r x hx e;rw [this,this];exact ⟨rfl,hr⟩
  ·have h1:=U.fall r x hx e;have h2:=U.rng r x hx;have h3:=ih x.toNat (by omega) (by omega);rw [U.same r x hx] at h3;exact h3
structure yD (H:Hp) (pa:Addr) (ts ws:List Addr) (T:List Tri):Prop where
 top:H pa=some (.lst (ts.map V.ref))
 lt:ts.length=T.length
 lw:ws.length=T.length
 trip:∀ (i:Nat) (t w:Addr) (e:Tri),ts[i]?=some t→ws[i]?=some w→T[i]?=some e→H t=some (.tup [.int e.1,.int e.2.1,.ref w])
 word:∀ (i:Nat) (w:Addr) (e:Tri),ws[i]?=some w→T[i]?=some e→H w=some (.lst (e.2.2.map V.int))
 out:pa∉ws
theorem yD.same {H H':Hp} {pa:Addr} {ts ws:List Addr} {T:List Tri} (A:yD H pa ts ws T) (s:j7 H H'):yD H' pa ts ws T :=
 ⟨s _ _ A.top,A.lt,A.lw,fun i t w e h1 h2 h3=>s _ _ (A.trip i t w e h1 h2 h3),fun i w e h1 h2=>s _ _ (A.word i w e h1 h2),A.out⟩
theorem yD.keep {H H':Hp} {pa la:Addr} {ts ws:List Addr} {T:List Tri} (A:yD H pa ts ws T) (k:∀ b o,b≠la→H b=some o→H' b=some o) (hp:pa≠la) (hw:la∉ws) (ht:la∉ts):yD H' pa ts ws T :=
 ⟨k _ _ hp A.top,A.lt,A.lw,fun i t w e h1 h2 h3=>k _ _ (fun z=>ht (z ▸ List.mem_of_getElem? h1)) (A.trip i t w e h1 h2 h3),fun i w e h1 h2=>k _ _ (fun z=>hw (z ▸ List.mem_of_getElem? h1)) (A.word i w e h1 h2),A.out⟩
theorem yD.add {H' H3:Hp} {fa w2 t2:Addr} {ts ws:List Addr} {T:List Tri} (A:yD H' fa ts ws T) {e:Tri} (s:j7 H' H3) (hw:H' w2=none) (ht:H' t2=none) (hw3:H3 w2=some (.lst (e.2.2.map V.int))) (ht3:H3 t2=some (.tup [.int e.1,.int e.2.1,.ref w2])) :
  yD (upd H3 fa (.lst (ts.map V.ref++[.ref t2]))) fa (ts++[t2]) (ws++[w2]) (T++[e]):=by
 have wf:w2≠fa:=fun z=>by have:=A.top;rw [← z,hw] at this;cases this
 have tf:t2≠fa:=fun z=>by have:=A.top;rw [← z,ht] at this;cases this
 have tsf:fa∉ts:=fun hm=>by
  obtain ⟨i,hi⟩:=List.getElem?_of_mem hm;have hl:i < T.length:=by have:=(List.getElem?_eq_some_iff.mp hi).1;rw [A.lt] at this;exact this
  have:=A.trip i fa (ws[i]'(by rw [A.lw];exact hl)) T[i] hi (List.getElem?_eq_getElem _) (List.getElem?_eq_getElem hl);rw [A.top] at this;cases this
 refine ⟨by rw [j1,List.map_append];rfl,by simp [A.lt],by simp [A.lw],fun i t w f h1 h2 h3=>?_,fun i w f h1 h2=>?_,fun hm=>?_⟩
 ·rcases getElem?_snoc h3 with ⟨hl,h3⟩ | ⟨hl,rfl⟩
  ·rw [List.getElem?_append_left (by rw [A.lt];exact hl)] at h1;rw [List.getElem?_append_left (by rw [A.lw];exact hl)] at h2;have hz:t≠fa:=fun z=>tsf (by rw [← z];exact List.mem_of_getElem? h1);rw [j5 hz];exact s _ _ (A.trip i t w f h1 h2 h3)
  ·rcases getElem?_snoc h1 with ⟨h,_⟩ | ⟨_,rfl⟩
   ·rw [A.lt] at h;omega
   ·rcases getElem?_snoc h2 with ⟨h,_⟩ | ⟨_,rfl⟩
    ·rw [A.lw] at h;omega
    ·rw [j5 tf];exact ht3
 ·rcases getElem?_snoc h2 with ⟨hl,h2⟩ | ⟨hl,rfl⟩
  ·rw [List.getElem?_append_left (by rw [A.lw];exact hl)] at h1;have hz:w≠fa:=fun z=>A.out (by rw [← z];exact List.mem_of_getElem? h1);rw [j5 hz];exact s _ _ (A.word i w f h1 h2)
  ·rcases getElem?_snoc h1 with ⟨h,_⟩ | ⟨_,rfl⟩
   ·rw [A.lw] at h;omega
   ·rw [j5 wf];exact hw3
 ·rcases List.mem_append.mp hm with hm | hm
  ·exact A.out hm
  ·exact wf (List.mem_singleton.mp hm).symm
structure xo (H:Hp) (la:Addr) (n:Nat) (rss:List (List Int)) (a b d:Int) (Kp:List Tri) (k j:Nat):Prop where
 ex:∃ (ls:List Int) (root dist:Nat→Nat),H la=some (.lst (ls.map V.int))∧ls.length=n∧UF ls root dist∧z8 rss a b d Kp root k j
theorem xo.same {H H':Hp} {la:Addr} {n:Nat} {rss:List (List Int)} {a b d:Int} {Kp:List Tri} {k j:Nat} (s:j7 H H') (L:xo H la n rss a b d Kp k j):xo H' la n rss a b d Kp k j :=
 let ⟨ls,root,dist,h1,h2,h3,h4⟩:=L.ex;⟨ls,root,dist,s _ _ h1,h2,h3,h4⟩
theorem xo.len {H:Hp} {la:Addr} {n:Nat} {rss:List (List Int)} {a b d:Int} {Kp:List Tri} {k j:Nat} (L:xo H la n rss a b d Kp k j):Kp.length≤rss.length:=by
 obtain ⟨ls,root,dist,h1,h2,h3,h4⟩:=L.ex;have:=h4.count;omega
structure Lv (H H':Hp) (la fa:Addr) (rss:List (List Int)) (a b d:Int) (Kp Kp':List Tri) (ts ws:List Addr) (k j:Nat):Prop where
 keep:∀ x o,x≠la→H x=some o→H' x=some o
 free:∀ x,H' x=none→H x=none
 lk:xo H' la rss.length rss a b d Kp' k j
 le:Kp.length≤Kp'.length
 pre:∀ m,m < Kp.length→Kp'[m]?=Kp[m]?
 tr:yD H' fa ts ws (Kp'.drop Kp.length)
 new:∀ x∈fa :: ws,H x=none
theorem Lv.tick {H H' H2:Hp} {la fa:Addr} {rss:List (List Int)} {a b d:Int} {Kp Kp':List Tri} {ts ws:List Addr} {k j:Nat} (L:Lv H H' la fa rss a b d Kp Kp' ts ws k j) (s:j7 H' H2):Lv H H2 la fa rss a b d Kp Kp' ts ws k j :=
 ⟨fun x o hx e=>s _ _ (L.keep x o hx e),fun x e=>L.free x (s.free e),L.lk.same s,L.le,L.pre,L.tr.same s,L.new⟩
def wO (K:PySem.W.Frag):Sp:=fun vs H Q _=>∃ (aw:Addr) (rs:List Addr) (rss:List (List Int)) (pa:Addr) (ts ws:List Addr) (la:Addr) (a b d:Int) (Kp:List Tri) (k:Nat),vs=[.ref aw,.ref pa,.ref la]∧Mat H aw rs rss∧Ways d rss∧1≤d∧d≤6∧rss.length≤1000∧0≤a∧a < rss.length∧0≤b∧b < rss.length∧yD H pa ts ws (Kp.drop k)∧k≤Kp.length∧xo H la rss.length rss a b d Kp k 0∧la∉aw :: rs∧la∉pa :: ws ∧
 ∀ (H':Hp) (fa:Addr) (ts' ws':List Addr) (Kp':List Tri),Lv H H' la fa rss a b d Kp Kp' ts' ws' Kp.length 0→Q (.ref fa) H'
theorem WF (T:Txt K mg t):qE P w K mg base CX0 3 t.f_zO t.fd_zO ["ways","pairs","links"] (wO K):=by
 refine T.F_zO.ok xO (fun vs H Q E h=>?_) (fun cdv A outer s H vs Q E hr h=>?_)
 ·obtain ⟨aw,rs,rss,pa,ts,ws,la,a,b,d,Kp,k,rfl,_⟩:=h;rfl
 ·obtain ⟨aw,rs,rss,pa,ts,ws,la,a,b,d,Kp,k,rfl,M,W,hd1,hd6,h1000,a0,a1,b0,b1,A,hk,L,hlaw,hlap,q⟩:=h;obtain ⟨ls0,root0,dist0,hla0,_⟩:=L.ex;have kin:∀ {Kp':List Tri} {root:Nat→Nat} {k j:Nat},z8 rss a b d Kp' root k j→∀ e∈Kp',(0≤e.1∧e.1 < rss.length)∧(0≤e.2.1∧e.2.1 < rss.length):=fun {Kp' root k j} P e he=>by
   obtain ⟨o1,o2,o3⟩:=P.ok e he;rw [o2,o3];exact ⟨q0 W o1 a0 a1,q0 W o1 b0 b1⟩
  have hpl:pa≠la:=fun z=>hlap (by rw [z];exact List.mem_cons_self);have hwl:la∉ws:=fun z=>hlap (List.mem_cons_of_mem _ z);have hlt:=A.lt;have hlw:=A.lw;have hdl:(Kp.drop k).length=Kp.length - k:=List.length_drop;refine ⟨_,j3 (jH (i:=3) xO.nd rfl (Or.inl rfl) (jg (j4)))
 (j3 (qC PassesOwn.never rfl (jp K (pv 1)) (zq K (n:=3) rfl (qZ (jL (i:=4) xO.nd rfl (Or.inl rfl)) (qZ (jL (i:=5) xO.nd rfl (Or.inl rfl)) (qZ (jL (i:=6) xO.nd rfl (Or.inl rfl)) (zo)))))
 (j6 (qC PassesOwn.never rfl (kC K rfl T.m_enumerate (j0 (jb (jE K) (pv 0) (pv 4) (fun _ _=>rfl)) (j4))) (zq K (n:=2) rfl (qZ (jL (i:=7) xO.nd rfl (Or.inl rfl)) (qZ (jL (i:=8) xO.nd rfl (Or.inl rfl)) (zo))))
 (j6 (qV (jz (qv (jK (Kj T) (hr.mono (by decide)) rfl T.mg_zN T.F_zN.kp (j0B T) .nil jP (j0 (pv 2) (j0 (pv 8) (j0 (jb (jE K) (jb (jE K) (pv 0) (pv 5) (fun _ _=>rfl)) (pv 7) (fun _ _=>rfl)) (j4))))))
 (j6 (jZ (qc K PySem.F.plainAttrs_list PySem.F.slot_list_append PySem.F.type_list_append jj (pv 3) (j0 (vW (j0 (pv 8) (j0 (jb (jE K) (jb (jE K) (pv 0) (pv 5) (fun _ _=>rfl)) (pv 7) (fun _ _=>rfl)) (j0 (jq qw (pv 6) (jg (j0 (pv 7) (j4)))) (j4))))) (j4)))))
 (jS)))))))
 (j6 (jO (pv 3)))),?_⟩
  walk_at "w";refine ⟨Nat.zero_le _,fun fa hfa=>?_⟩;walk_at "w";have s0:j7 H (upd H fa (.lst [])):=j7.upd_new hfa;have L0:Lv H (upd H fa (.lst [])) la fa rss a b d Kp Kp [] [] (k+0) 0:=by
   refine ⟨fun x o _ e=>s0 _ _ e,fun x e=>s0.free e,L.same s0,Nat.le_refl _,fun _ _=>rfl,⟨j1,by simp,by simp,fun i t w e h1=>by simp at h1,fun i w e h1=>by simp at h1,by simp⟩,fun x hx=>by rw [List.mem_singleton.mp hx];exact hfa⟩
  generalize upd H fa (.lst [])=H0 at s0 L0 ⊢;refine ⟨pa,rfl,⟨_,SqL.of (s0 _ _ A.top)⟩,?_⟩;refine qT (xs:=ts.map V.ref) (fun i σ H'=>∃ (Kp':List Tri) (ts' ws':List Addr) (q4 q5 q6 q7 q8:Option V),Lv H H' la fa rss a b d Kp Kp' ts' ws' (k+i) 0∧σ=[some (.ref aw),some (.ref pa),some (.ref la),some (.ref fa),q4,q5,q6,q7,q8]) ⟨Kp,[],[],none,none,none,none,none,L0,rfl⟩ (fun i σ H' _ p=>by obtain ⟨Kp',ts',ws',_,_,_,_,_,L',_⟩:=p;exact SqL.of (L'.keep _ _ hpl A.top)) (fun i x σ H' hx p=>?_) (fun σ H' p=>?_)
  ·obtain ⟨Kp1,ts1,ws1,q4,q5,q6,q7,q8,L1,rfl⟩:=p;obtain ⟨ta,rfl,hta⟩:=jc hx;have hi:i < (Kp.drop k).length:=by rw [← hlt];exact (List.getElem?_eq_some_iff.mp hta).1
   have hki:k+i < Kp.length:=by omega
   obtain ⟨wa,hwa⟩:∃ wa,ws[i]?=some wa:=⟨_,List.getElem?_eq_getElem (by omega)⟩;obtain ⟨e,he⟩:∃ e,(Kp.drop k)[i]?=some e:=⟨_,List.getElem?_eq_getElem hi⟩;have heK:Kp[k+i]?=some e:=by rw [← List.getElem?_drop];exact he
   have hem:e∈Kp:=List.mem_of_getElem? heK;have htv:=A.trip i ta wa e hta hwa he;have hwv:=A.word i wa e hwa he;have hta_la:ta≠la:=vR htv hla0 (fun z=>nomatch z);have hwa_la:wa≠la:=fun z=>hwl (z ▸ List.mem_of_getElem? hwa);obtain ⟨lsx,rootx,distx,_,_,_,Px⟩:=L.ex;obtain ⟨⟨e1,e2⟩,e3,e4⟩:=kin Px e hem;obtain ⟨r1,hr1i,hr1,hr1v⟩:=M.get (i:=e.1.toNat) (row:=rss[e.1.toNat]'(by omega)) (List.getElem?_eq_getElem (by omega));have hr1la:r1≠la:=fun z=>hlaw (z ▸ List.mem_cons_of_mem _ (List.mem_of_getElem? hr1i));have hawla:aw≠la:=fun z=>hlaw (by rw [z];exact List.mem_cons_self);obtain ⟨hrl,_⟩:=W.row (rss[e.1.toNat]'(by omega)) (List.getElem_mem _);have hrow1:rss[e.1.toNat]?=some (rss[e.1.toNat]'(by omega)):=List.getElem?_eq_getElem (by omega);generalize (rss[e.1.toNat]'(by omega))=row1 at hr1v hrl hrow1;refine ⟨ta,_,rfl,SqT.of (L1.keep _ _ hta_la htv),rfl,_,_,rfl,?_⟩;walk_at "w";refine ⟨_,_,rfl,?_⟩;walk_at "w";refine ⟨_,_,rfl,?_⟩;walk_at "w";refine ⟨rfl,?_⟩;walk_at "w";refine ji (SqL.of (L1.keep _ _ hawla M.top)) (js e1 hr1) ?_;walk_at "w";refine ⟨r1,rfl,⟨_,SqL.of (L1.keep _ _ hr1la hr1v)⟩,?_⟩;refine xQ (xs:=row1.map V.int) (fun j σ H2=>∃ (Kp2:List Tri) (ts2 ws2:List Addr) (q7 q8:Option V),Lv H H2 la fa rss a b d Kp Kp2 ts2 ws2 (k+i) j∧σ=[some (.ref aw),some (.ref pa),some (.ref la),some (.ref fa),some (.int e.1),some (.int e.2.1),some (.ref wa),q7,q8]) ⟨Kp1,ts1,ws1,_,_,L1,rfl⟩ (fun j σ H2 _ p=>by obtain ⟨Kp2,ts2,ws2,_,_,L2',_⟩:=p;exact SqL.of (L2'.keep _ _ hr1la hr1v)) (fun j x σ H2 tp hx p htp=>?_) (fun σ H2 p=>?_)
   ·obtain ⟨Kp2,ts2,ws2,q7,q8,L2',rfl⟩:=p;have hx0:=qm hx;clear hx;obtain ⟨x,rfl,hx⟩:=hx0;have hjd:(j:Int) < d:=by have:=(List.getElem?_eq_some_iff.mp hx).1;omega
    obtain ⟨rowa,g1,g2,g3,g4⟩:=yT W e1 e2 (x:=(j:Int)) (by omega) hjd;rw [hrow1] at g1;cases g1;rw [Int.toNat_natCast,hx] at g2;have hxs:x=step rss e.1 (j:Int):=Option.some.inj g2;obtain ⟨row2,f1,f2,f3,f4⟩:=yT W e3 e4 (x:=(j:Int)) (by omega) hjd;obtain ⟨r2,hr2i,hr2,hr2v⟩:=M.get f1;have hr2la:r2≠la:=fun z=>hlaw (z ▸ List.mem_cons_of_mem _ (List.mem_of_getElem? hr2i));have L3:=L2'.tick (j7.upd_new (o:=.tup [.int (j:Int),.int x]) htp);have tpv:(upd H2 tp (.tup [.int (j:Int),.int x])) tp=some (.tup [.int (j:Int),.int x]):=j1;generalize upd H2 tp (.tup [.int (j:Int),.int x])=H3 at L3 tpv ⊢;obtain ⟨xn,hxn⟩:∃ xn:Nat,step rss e.1 (j:Int)=(xn:Int):=⟨(step rss e.1 (j:Int)).toNat,by omega⟩;obtain ⟨yn,hyn⟩:∃ yn:Nat,step rss e.2.1 (j:Int)=(yn:Int):=⟨(step rss e.2.1 (j:Int)).toNat,by omega⟩;rw [hxn] at hxs;subst hxs;obtain ⟨ls,root,dist,hls,hln,U,Pi⟩:=L3.lk.ex;have heK2:Kp2[k+i]?=some e:=by rw [L3.pre _ hki];exact heK
    obtain ⟨ix1,ix2⟩:=U.idem (dist xn) xn (Nat.le_refl _) (by omega);obtain ⟨iy1,iy2⟩:=U.idem (dist yn) yn (Nat.le_refl _) (by omega);have hcnt:=Pi.count;refine ⟨tp,_,rfl,SqT.of tpv,rfl,_,_,rfl,?_⟩;walk_at "w";refine ⟨_,_,rfl,?_⟩;walk_at "w";refine ⟨rfl,?_⟩;walk_at "w";refine qp (fun σ' H'=>∃ (Kp3:List Tri) (ts3 ws3:List Addr),Lv H H' la fa rss a b d Kp Kp3 ts3 ws3 (k+i) (j+1)∧σ'=[some (.ref aw),some (.ref pa),some (.ref la),some (.ref fa),some (.int e.1),some (.int e.2.1),some (.ref wa),some (.int (j:Int)),some (.int (xn:Int))]) ?_ (fun σ' H' ⟨Kp3,ts3,ws3,h1,h2⟩=>⟨Kp3,ts3,ws3,_,_,h1,h2⟩);walk_at "w";refine ji (SqL.of (L3.keep _ _ hawla M.top)) (js e3 hr2) ?_;walk_at "w";refine ji (SqL.of (L3.keep _ _ hr2la hr2v)) (js (by omega) (qL f2)) ?_;rw [hyn];walk_at "w";refine ⟨la,ls,root,dist,xn,yn,rfl,hls,U,by omega,by omega,fun ls' dist' U' hl'=>?_⟩;have hU':UF ls' (yb root xn yn) dist':=U';have hnla:∀ y∈fa :: ws2,y≠la:=fun y hy z=>by have:=L3.new y hy;rw [z,hla0] at this;cases this
    have htsla:la∉ts2:=fun hm=>by
     obtain ⟨m,hm⟩:=List.getElem?_of_mem hm;have hml:m < (Kp2.drop Kp.length).length:=by rw [← L3.tr.lt];exact (List.getElem?_eq_some_iff.mp hm).1
     have:=L3.tr.trip m la (ws2[m]'(by rw [L3.tr.lw];exact hml)) ((Kp2.drop Kp.length)[m]) hm (List.getElem?_eq_getElem _) (List.getElem?_eq_getElem hml);rw [hls] at this;cases this
    have k34:∀ y o,y≠la→H3 y=some o→(upd H3 la (.lst (ls'.map V.int))) y=some o:=fun y o hy e=>by rw [j5 hy];exact e
    have f34:∀ y,(upd H3 la (.lst (ls'.map V.int))) y=none→H3 y=none:=fun y e=>by
     by_cases hy:y=la
     ·subst hy;rw [j1] at e;cases e
     ·rw [j5 hy] at e;exact e
    have la4:(upd H3 la (.lst (ls'.map V.int))) la=some (.lst (ls'.map V.int)):=j1;have tr4:=L3.tr.keep k34 (hnla fa List.mem_cons_self) (fun hm=>hnla la (List.mem_cons_of_mem _ hm) rfl) htsla;generalize upd H3 la (.lst (ls'.map V.int))=H4 at k34 f34 la4 tr4 ⊢;walk_at "w";refine yo (fun hc=>?_) (fun hc=>?_)
    ·have hne:root xn≠root yn:=by simpa using hc
     have P':=Pi.new heK2 hjd hxn hyn (by omega) ix1 iy1 hne;walk_at "w";refine ⟨.inl ⟨rfl,_,SqL.of tr4.top⟩,?_⟩;walk_at "w";refine ji (SqL.of (k34 _ _ hawla (L3.keep _ _ hawla M.top))) (js e3 hr2) ?_;walk_at "w";refine ji (SqL.of (k34 _ _ hr2la (L3.keep _ _ hr2la hr2v))) (js (by omega) (qL f2)) ?_;rw [hyn];walk_at "w";refine ⟨by show 1≤sizeLine;decide,fun p1 hp1=>?_⟩;have s1:=j7.upd_new (o:=.lst [.int (j:Int)]) hp1;have hwlen:=Pi.wl _ _ heK2;refine ⟨wa,p1,_,_,rfl,rfl,s1 _ _ (k34 _ _ hwa_la (L3.keep _ _ hwa_la hwv)),j1,(by rw [List.length_map];show e.2.2.length+1≤sizeLine;have hKl:=L3.lk.len;have hkl2:k+i < Kp2.length:=(List.getElem?_eq_some_iff.mp heK2).1;exact Nat.le_trans (show _≤200000 by omega) (by decide)),fun p2 hp2=>?_⟩;have s2:=s1.trans (j7.upd_new (o:=.lst (e.2.2.map V.int++[.int (j:Int)])) hp2);have hp2':=s1.free hp2;have hp2v:(upd (upd H4 p1 (.lst [.int (j:Int)])) p2 (.lst (e.2.2.map V.int++[.int (j:Int)]))) p2=some (.lst ((e.2.2++[(j:Int)]).map V.int)):=by rw [j1];simp
     generalize upd (upd H4 p1 (.lst [.int (j:Int)])) p2 (.lst (e.2.2.map V.int++[.int (j:Int)]))=H6 at s2 hp2v ⊢;walk_at "w";refine ⟨by show 3≤sizeLine;decide,fun t2 ht2=>?_⟩;have s3:=s2.trans (j7.upd_new (o:=.tup [.int (xn:Int),.int (yn:Int),.ref p2]) ht2);have ht2':=s2.free ht2;have ht2v:(upd H6 t2 (.tup [.int (xn:Int),.int (yn:Int),.ref p2])) t2=some (.tup [.int (xn:Int),.int (yn:Int),.ref p2]):=j1;have hp2w:(upd H6 t2 (.tup [.int (xn:Int),.int (yn:Int),.ref p2])) p2=some (.lst ((e.2.2++[(j:Int)]).map V.int)):=by rw [j5 (jA hp2v ht2)];exact hp2v
     generalize upd H6 t2 (.tup [.int (xn:Int),.int (yn:Int),.ref p2])=H7 at s3 ht2v hp2w ⊢;walk_at "w";refine ⟨fa,_,_,rfl,rfl,s3 _ _ tr4.top,yH (by rw [List.length_map,tr4.lt,List.length_drop];omega),?_⟩;have hlaf:la≠fa:=Ne.symm (hnla fa List.mem_cons_self);refine ⟨Kp2++[((xn:Int),(yn:Int),e.2.2++[(j:Int)])],ts2++[t2],ws2++[p2],⟨fun y o hy e'=>?_,fun y e'=>?_,⟨ls',_,dist',?_,by omega,hU',P'⟩,?_,fun m hm=>?_,?_,fun y hy=>?_⟩,rfl⟩
     ·rw [j5 (jA e' hfa)];exact s3 _ _ (k34 _ _ hy (L3.keep _ _ hy e'))
     ·have:y≠fa:=fun z=>by rw [z,j1] at e';cases e'
      rw [j5 this] at e';exact L3.free y (f34 y (s3.free e'))
     ·rw [j5 hlaf];exact s3 _ _ la4
     ·have:=L3.le;simp;omega
     ·have:=L3.le;rw [List.getElem?_append_left (by omega)];exact L3.pre m hm
     ·rw [List.drop_append_of_le_length L3.le];exact tr4.add s3 hp2' ht2' hp2w ht2v
     ·have hy:y∈(fa :: ws2)++[p2]:=hy;rcases List.mem_append.mp hy with hy | hy
      ·exact L3.new y hy
      ·rw [List.mem_singleton.mp hy];exact L3.free _ (f34 _ hp2')
    ·have heq:root xn=root yn:=by simpa using hc
     have P':=Pi.old heK2 hxn hyn heq;rw [VP heq] at hU';walk_at "w";exact ⟨Kp2,ts2,ws2,⟨fun y o hy e'=>k34 _ _ hy (L3.keep _ _ hy e'),fun y e'=>L3.free y (f34 y e'),⟨ls',root,dist',la4,by omega,hU',P'⟩,L3.le,L3.pre,tr4,L3.new⟩,rfl⟩
   ·obtain ⟨Kp2,ts2,ws2,q7,q8,L2',rfl⟩:=p;obtain ⟨ls,root,dist,hls,hln,U,Pi⟩:=L2'.lk.ex;have hle:=L2'.le;have P':=Pi.next (by rw [List.length_map];omega) (by omega);exact ⟨Kp2,ts2,ws2,_,_,_,_,_,⟨L2'.keep,L2'.free,⟨ls,root,dist,hls,hln,U,by rw [← Nat.add_assoc];exact P'⟩,L2'.le,L2'.pre,L2'.tr,L2'.new⟩,rfl⟩
  ·obtain ⟨Kp',ts',ws',q4,q5,q6,q7,q8,L',rfl⟩:=p;walk_at "w";rw [List.length_map,hlt,hdl,Nat.add_sub_cancel' hk] at L';exact q H' fa ts' ws' Kp' L'
theorem xg:jM ["ways","lamps","one","other","links","pairs","left","right","word"] ["ways","lamps","one","other"] (j2 JR):=⟨rfl,rfl,rfl,by decide +kernel,rfl,by decide +kernel,by decide +kernel⟩
theorem j11 (T:Txt K mg t):jd K t.fd_zP ["ways","lamps","one","other"] []:=T.F_zP.binds fun _ _ _ _ _ _ us hl=>by obtain ⟨_,_,_,_,rfl⟩:=xp hl;rfl
def j0Q (K:PySem.W.Frag):Sp:=fun vs H Q _=>∃ (aw:Addr) (rs:List Addr) (rss:List (List Int)) (al:Addr) (ls:List Bool) (a b d:Int),vs=[.ref aw,.ref al,.int a,.int b]∧Mat H aw rs rss∧SqL K H al (ls.map V.bl)∧Ways d rss∧1≤d∧d≤6∧rss.length≤1000∧ls.length=rss.length∧0≤a∧a < rss.length∧0≤b∧b < rss.length ∧
 (∀ H',j7 H H'→(∀ w,jD d w→jh ls (jF rss a w)=jh ls (jF rss b w))→Q .non H') ∧
 (∀ H' p w,j7 H H'→H' p=some (.lst (w.map V.int))→H p=none→x6 d rss rss ls ls a b w→w.length≤1000→Q (.ref p) H')
theorem UF.start (n:Nat):UF ((List.range n).map fun (i:Nat)=>(i:Int)) (fun z=>z) (fun _=>0):=by
 have get:∀ {i:Nat} {x:Int},((List.range n).map fun (i:Nat)=>(i:Int))[i]?=some x→i < n∧x=(i:Int):=fun {i x} h=>by
  have hi:i < n:=by have:=(List.getElem?_eq_some_iff.mp h).1;simpa using this
  rw [List.getElem?_map,List.getElem?_range hi] at h;exact ⟨hi,(Option.some.inj h).symm⟩
 refine ⟨fun i x h=>?_,fun i x h hx=>absurd (get h).2 hx,fun i x h=>?_,fun i x h _=>rfl⟩
 ·obtain ⟨h1,h2⟩:=get h;simp;omega
 ·rw [(get h).2,Int.toNat_natCast]
def ze (ls:List Bool) (i:Int):Nat:=if jh ls i=true then 1 else 0
theorem xZ {ls:List Bool} {i j:Int}:ze ls i=ze ls j↔jh ls i=jh ls j:=by
 unfold ze;cases jh ls i <;> cases jh ls j <;> simp
theorem WL (T:Txt K mg t):qE P w K mg base CX0 4 t.f_zP t.fd_zP ["ways","lamps","one","other"] (j0Q K):=by
 refine T.F_zP.ok xg (fun vs H Q E h=>?_) (fun cdv A outer s H vs Q E hr h=>?_)
 ·obtain ⟨aw,rs,rss,al,ls,a,b,d,rfl,_⟩:=h;rfl
 ·obtain ⟨aw,rs,rss,al,ls,a,b,d,rfl,M,hL,W,hd1,hd6,h1000,hll,a0,a1,b0,b1,qn,qs⟩:=h;obtain ⟨an,rfl⟩:∃ an:Nat,a=(an:Int):=⟨a.toNat,by omega⟩;obtain ⟨bn,rfl⟩:∃ bn:Nat,b=(bn:Int):=⟨b.toNat,by omega⟩;have hlen:(rs.map V.ref).length=rss.length:=by rw [List.length_map,M.len]
  refine ⟨_,j3 (jH (i:=4) xg.nd rfl (Or.inl rfl) (qG (kR rfl) rfl T.m_list boot_list (j0 (qG Qb rfl T.m_range boot_range (j0 (jI (jB K) rfl T.m_len PySem.boot_len (j0 (pv 0) (j4))) (j4))) (j4))))
 (j3 (jH (i:=5) xg.nd rfl (Or.inl rfl) (jg (j4)))
 (j3 (qV (jz (qv (jK (Kj T) (hr.mono (by decide)) rfl T.mg_zN T.F_zN.kp (j0B T) .nil jP (j0 (pv 4) (j0 (pv 2) (j0 (pv 3) (j4))))))
 (j6 (jZ (qc K PySem.F.plainAttrs_list PySem.F.slot_list_append PySem.F.type_list_append jj (pv 5) (j0 (vW (j0 (pv 2) (j0 (pv 3) (j0 (jg (j4)) (j4))))) (j4)))))
 (jS)))
 (j3 (y9 PassesOwn.never (jX WZ (jI (jB K) rfl T.m_len PySem.boot_len (j0 (pv 5) (j4))) (jG) (je _))
 (j3 (qC PassesOwn.never rfl (jp K (pv 5)) (zq K (n:=3) rfl (qZ (jL (i:=6) xg.nd rfl (Or.inl rfl)) (qZ (jL (i:=7) xg.nd rfl (Or.inl rfl)) (qZ (jL (i:=8) xg.nd rfl (Or.inl rfl)) (zo)))))
 (j6 (jz (jX yg (jb (jE K) (pv 1) (pv 6) (fun _ _=>rfl)) (jb (jE K) (pv 1) (pv 7) (fun _ _=>rfl)) (je _))
 (j6 (jO (pv 8)))
 (jS))))
 (j6 (jH (i:=5) xg.nd rfl (Or.inl rfl) (jK (WF T) (hr.mono (by decide)) rfl T.mg_zO T.F_zO.kp (j1F T) .nil jP (j0 (pv 0) (j0 (pv 5) (j0 (pv 4) (j4)))))))))
 (j6 (jO (qf)))))),?_⟩
  walk_at "w";refine ⟨aw,_,rfl,.inl (SqL.of M.top),?_⟩;rw [hlen];walk_at "w";refine ⟨_,rfl,fun rg hrg=>?_⟩;have s1:j7 H (upd H rg (.rng 0 (rss.length:Int))):=j7.upd_new hrg;have rgv:(upd H rg (.rng 0 (rss.length:Int))) rg=some (.rng 0 (rss.length:Int)):=j1;generalize upd H rg (.rng 0 (rss.length:Int))=H1 at s1 rgv ⊢;walk_at "w";refine ⟨rg,_,rfl,rgv,by omega,by omega,fun la hla=>?_⟩;rw [Int.toNat_natCast,show ((List.range rss.length).map fun (i:Nat)=>V.int (i:Int))=((List.range rss.length).map fun (i:Nat)=>(i:Int)).map V.int by rw [List.map_map];rfl];have hla0:H la=none:=s1.free hla;have s2:j7 H (upd H1 la (.lst (((List.range rss.length).map fun (i:Nat)=>(i:Int)).map V.int))):=s1.trans (j7.upd_new hla);have lav:(upd H1 la (.lst (((List.range rss.length).map fun (i:Nat)=>(i:Int)).map V.int))) la=some (.lst (((List.range rss.length).map fun (i:Nat)=>(i:Int)).map V.int)):=j1;generalize upd H1 la (.lst (((List.range rss.length).map fun (i:Nat)=>(i:Int)).map V.int))=H2 at s2 lav ⊢;have U0:=UF.start rss.length;have l0:((List.range rss.length).map fun (i:Nat)=>(i:Int)).length=rss.length:=by simp
  generalize ((List.range rss.length).map fun (i:Nat)=>(i:Int))=lk0 at lav U0 l0;walk_at "w";refine ⟨Nat.zero_le _,fun pa hpa=>?_⟩;have s3:j7 H2 (upd H2 pa (.lst [])):=j7.upd_new hpa;have pav:(upd H2 pa (.lst [])) pa=some (.lst []):=j1;have hpa0:H pa=none:=s2.free hpa;have hpl:pa≠la:=fun z=>by rw [z,lav] at hpa;cases hpa
  generalize upd H2 pa (.lst [])=H3 at s3 pav ⊢;have hlaM:la∉aw :: rs:=fun hm=>by obtain ⟨o,e⟩:=M.mem hm;rw [e] at hla0;cases hla0
  walk_at "w";refine qp (fun σ' H'=>∃ (pa:Addr) (ts ws:List Addr) (Kp:List Tri),(∀ x o,H x=some o→H' x=some o)∧yD H' pa ts ws Kp∧H' la≠none∧(∀ x∈pa :: ws,H x=none∧x≠la)∧((Kp=[]∧an=bn)∨xo H' la rss.length rss an bn d Kp 0 0) ∧
   σ'=[some (.ref aw),some (.ref al),some (.int (an:Int)),some (.int (bn:Int)),some (.ref la),some (.ref pa),none,none,none]) ?_ ?_
  ·walk_at "w";refine ⟨la,lk0,(fun z=>z),(fun _=>0),an,bn,rfl,s3 _ _ lav,U0,by omega,by omega,fun ls' dist' U' hl'=>?_⟩;have hU':UF ls' (yb (fun z=>z) an bn) dist':=U';have k34:∀ y o,y≠la→H3 y=some o→(upd H3 la (.lst (ls'.map V.int))) y=some o:=fun y o hy e=>by rw [j5 hy];exact e
   have la4:(upd H3 la (.lst (ls'.map V.int))) la=some (.lst (ls'.map V.int)):=j1;generalize upd H3 la (.lst (ls'.map V.int))=H4 at k34 la4 ⊢;have k04:∀ y o,H y=some o→H4 y=some o:=fun y o e=>k34 _ _ (jA e hla0) (s3 _ _ (s2 _ _ e));have pa4:=k34 _ _ hpl pav;walk_at "w";refine yo (fun hc=>?_) (fun hc=>?_)
   ·have hne:an≠bn:=by simpa using hc
    have P0:=z8.start (rss:=rss) (d:=d) (x:=an) (y:=bn) rfl rfl (by omega) (by omega) hne;walk_at "w";refine ⟨.inl ⟨rfl,_,SqL.of pa4⟩,?_⟩;walk_at "w";refine ⟨Nat.zero_le _,fun w0 hw0=>?_⟩;have s5:j7 H4 (upd H4 w0 (.lst [])):=j7.upd_new hw0;have w0v:(upd H4 w0 (.lst [])) w0=some (.lst []):=j1;generalize upd H4 w0 (.lst [])=H5 at s5 w0v ⊢;walk_at "w";refine ⟨by show 3≤sizeLine;decide,fun t0 ht0=>?_⟩;have s6:j7 H4 (upd H5 t0 (.tup [.int (an:Int),.int (bn:Int),.ref w0])):=s5.trans (j7.upd_new ht0);have t0v:(upd H5 t0 (.tup [.int (an:Int),.int (bn:Int),.ref w0])) t0=some (.tup [.int (an:Int),.int (bn:Int),.ref w0]):=j1;have w0w:(upd H5 t0 (.tup [.int (an:Int),.int (bn:Int),.ref w0])) w0=some (.lst []):=by rw [j5 (jA w0v ht0)];exact w0v
    generalize upd H5 t0 (.tup [.int (an:Int),.int (bn:Int),.ref w0])=H6 at s6 t0v w0w ⊢;walk_at "w";refine ⟨pa,_,_,rfl,rfl,s6 _ _ pa4,by show 0 < sizeLine;decide,?_⟩;have A0:yD H4 pa [] [] []:=⟨pa4,rfl,rfl,fun i t w e h1=>by simp at h1,fun i w e h1=>by simp at h1,by simp⟩;have A1:=A0.add (e:=((an:Int),(bn:Int),[])) s6 hw0 (s5.free ht0) w0w t0v;have hn4:∀ x,H4 x=none→H x=none:=fun x e=>by
     cases e':H x with
     | none=>rfl
     | some o=>rw [k04 x o e'] at e;cases e
    have hw0H:H w0=none:=hn4 _ hw0;refine ⟨pa,[]++[t0],[]++[w0],[((an:Int),(bn:Int),[])],fun x o e=>?_,A1,?_,fun x hx=>?_,.inr ⟨ls',_,dist',?_,by omega,hU',P0⟩,rfl⟩
    ·rw [j5 (jA e hpa0)];exact s6 _ _ (k04 _ _ e)
    ·rw [j5 (Ne.symm hpl),s6 _ _ la4];simp
    ·rcases List.mem_cons.mp hx with rfl | hx
     ·exact ⟨hpa0,hpl⟩
     ·have hx:x=w0:=by simpa using hx
      subst hx;exact ⟨hw0H,fun z=>by rw [z,la4] at hw0;cases hw0⟩
    ·rw [j5 (Ne.symm hpl)];exact s6 _ _ la4
   ·have heq:an=bn:=by simpa using hc
    walk_at "w";exact ⟨pa,[],[],[],k04,⟨pa4,rfl,rfl,fun i t w e h1=>by simp at h1,fun i w e h1=>by simp at h1,by simp⟩,by rw [la4];simp,fun x hx=>by rw [List.mem_singleton.mp hx];exact ⟨hpa0,hpl⟩,.inl ⟨rfl,heq⟩,rfl⟩
  clear hpa0 hpl s3 pav hpa
  rintro σ' H' ⟨pa0,ts0,ws0,Kp0,k0,A0,hlaN,new0,st0,rfl⟩
  walk_at "w";refine ⟨fun m σ H'=>∃ (pa:Addr) (ts ws:List Addr) (Kp:List Tri) (k:Nat) (q6 q7 q8:Option V),m=rss.length+1 - k∧k≤Kp.length∧(∀ x o,H x=some o→H' x=some o)∧yD H' pa ts ws (Kp.drop k)∧(∀ x∈pa :: ws,H x=none∧x≠la)∧((Kp=[]∧an=bn)∨(xo H' la rss.length rss an bn d Kp k 0∧k≤Kp.length))∧(∀ (i:Nat) e,i < k→Kp[i]?=some e→ze ls e.1=ze ls e.2.1) ∧
   σ=[some (.ref aw),some (.ref al),some (.int (an:Int)),some (.int (bn:Int)),some (.ref la),some (.ref pa),q6,q7,q8],⟨_,pa0,ts0,ws0,Kp0,0,none,none,none,rfl,Nat.zero_le _,k0,A0,new0,st0.imp id (fun h=>⟨h,Nat.zero_le _⟩),fun i e hi=>absurd hi (Nat.not_lt_zero i),rfl⟩,?_⟩
  rintro m σ H5 ⟨pa,ts,ws,Kp,k,q6,q7,q8,rfl,hk,kp,A,new,st,qz,rfl⟩
  have hdl:(Kp.drop k).length=Kp.length - k:=List.length_drop;have hlt:=A.lt;have hlw:=A.lw;walk_at "w";refine ⟨pa,_,rfl,.inl (SqL.of A.top),?_⟩;rw [List.length_map,hlt,hdl];walk_at "w";refine yo (fun hc=>?_) (fun hc=>?_)
  ·have hc:k < Kp.length:=by simp at hc;omega
   obtain ⟨L,_⟩:xo H5 la rss.length rss an bn d Kp k 0∧k≤Kp.length:=by
    rcases st with ⟨h,_⟩ | h
    ·rw [h] at hc;simp at hc
    ·exact h
   have hcl:=L.len;obtain ⟨lsx,rootx,distx,hlx,hlxn,Ux,Px⟩:=L.ex;have kin:∀ e∈Kp,(0≤e.1∧e.1 < rss.length)∧(0≤e.2.1∧e.2.1 < rss.length):=fun e he=>by
    obtain ⟨o1,o2,o3⟩:=Px.ok e he;rw [o2,o3];exact ⟨q0 W o1 a0 a1,q0 W o1 b0 b1⟩
   refine ⟨fun σ' H'=>∃ (pa:Addr) (ts ws:List Addr) (Kp':List Tri) (q6 q7 q8:Option V),Kp.length≤Kp'.length∧(∀ x o,H x=some o→H' x=some o)∧yD H' pa ts ws (Kp'.drop Kp.length)∧(∀ x∈pa :: ws,H x=none∧x≠la)∧xo H' la rss.length rss an bn d Kp' Kp.length 0∧(∀ (i:Nat) e,i < Kp.length→Kp'[i]?=some e→ze ls e.1=ze ls e.2.1) ∧
    σ'=[some (.ref aw),some (.ref al),some (.int (an:Int)),some (.int (bn:Int)),some (.ref la),some (.ref pa),q6,q7,q8],fun σ' H' ⟨pa',ts',ws',Kp',q6',q7',q8',h1,h2,h3,h4,h5,h6,h7⟩=>⟨rss.length+1 - Kp.length,by omega,pa',ts',ws',Kp',Kp.length,q6',q7',q8',rfl,h1,h2,h3,h4,.inr ⟨h5,h1⟩,h6,h7⟩,?_⟩
   walk_at "w";refine ⟨pa,rfl,⟨_,SqL.of A.top⟩,?_⟩;refine qT (xs:=ts.map V.ref) (fun i σ H'=>H'=H5∧(∀ (m:Nat) e,m < k+i→Kp[m]?=some e→ze ls e.1=ze ls e.2.1)∧∃ q6 q7 q8,σ=[some (.ref aw),some (.ref al),some (.int (an:Int)),some (.int (bn:Int)),some (.ref la),some (.ref pa),q6,q7,q8]) ⟨rfl,qz,_,_,_,rfl⟩ (fun i σ H' _ p=>by rw [p.1];exact SqL.of A.top) (fun i x σ H' hx p=>?_) (fun σ H' p=>?_)
   ·obtain ⟨rfl,alike',q6,q7,q8,rfl⟩:=p;obtain ⟨ta,rfl,hta⟩:=jc hx;have hi:i < (Kp.drop k).length:=by rw [← hlt];exact (List.getElem?_eq_some_iff.mp hta).1
    obtain ⟨wa,hwa⟩:∃ wa,ws[i]?=some wa:=⟨_,List.getElem?_eq_getElem (by omega)⟩;obtain ⟨e,he⟩:∃ e,(Kp.drop k)[i]?=some e:=⟨_,List.getElem?_eq_getElem hi⟩;have heK:Kp[k+i]?=some e:=by rw [← List.getElem?_drop];exact he
    obtain ⟨⟨e1,e2⟩,e3,e4⟩:=kin e (List.mem_of_getElem? heK);have i1:e.1.toNat < ls.length:=by omega
    have i2:e.2.1.toNat < ls.length:=by omega
    have hL5:SqL K H' al (ls.map V.bl):=qa kp hL;have lx:jh ls e.1=ls[e.1.toNat]:=by unfold jh;rw [List.getD_eq_getElem?_getD,List.getElem?_eq_getElem i1,Option.getD_some]
    have ly:jh ls e.2.1=ls[e.2.1.toNat]:=by unfold jh;rw [List.getD_eq_getElem?_getD,List.getElem?_eq_getElem i2,Option.getD_some]
    refine ⟨ta,_,rfl,SqT.of (A.trip i ta wa e hta hwa he),rfl,_,_,rfl,?_⟩;walk_at "w";refine ⟨_,_,rfl,?_⟩;walk_at "w";refine ⟨_,_,rfl,?_⟩;walk_at "w";refine ⟨rfl,?_⟩;walk_at "w";refine ji hL5 (js e1 (yh (List.getElem?_eq_getElem i1))) ?_;walk_at "w";refine ji hL5 (js e3 (yh (List.getElem?_eq_getElem i2))) ?_;refine v7 rfl ?_;walk_at "w";refine yo (fun hc=>?_) (fun hc=>?_)
    ·have hne:jh ls e.1≠jh ls e.2.1:=by rw [lx,ly];intro z;rw [z] at hc;simp at hc
     walk_at "w";obtain ⟨o1,o2,o3⟩:=Px.ok e (List.mem_of_getElem? heK);have hwln:=Px.wl _ _ heK;refine qs H' wa e.2.2 kp (A.word i wa e hwa he) (new wa (List.mem_cons_of_mem _ (List.mem_of_getElem? hwa))).1 ⟨o1,by rw [← o2,← o3];exact hne,fun v ok hv=>?_⟩ (by omega);exact xZ.mp (Px.least heK (f:=ze ls) alike' ok hv)
    ·have heq:jh ls e.1=jh ls e.2.1:=by rw [lx,ly];simpa using hc
     walk_at "w";refine ⟨rfl,fun m e' hm he'=>?_,_,_,_,rfl⟩;rcases Nat.lt_or_ge m (k+i) with h | h
     ·exact alike' m e' h he'
     ·have:m=k+i:=by omega
      subst this;rw [heK] at he';cases he';exact xZ.mpr heq
   ·obtain ⟨rfl,alike',q6,q7,q8,rfl⟩:=p;rw [List.length_map,hlt,hdl,Nat.add_sub_cancel' hk] at alike';walk_at "w";refine ⟨aw,rs,rss,pa,ts,ws,la,(an:Int),(bn:Int),d,Kp,k,rfl,M.same kp,W,hd1,hd6,h1000,by omega,by omega,by omega,by omega,A,hk,L,hlaM,fun hm=>(new la hm).2 rfl,fun H6 fa ts' ws' Kp' Lv'=>?_⟩;walk_at "w";refine ⟨fa,ts',ws',Kp',_,_,_,Lv'.le,fun x o e=>Lv'.keep _ _ (jA e hla0) (kp _ _ e),Lv'.tr,fun x hx=>?_,Lv'.lk,fun i e hi he=>?_,rfl⟩
    ·have h0:=Lv'.new x hx;refine ⟨?_,fun z=>by rw [z,hlx] at h0;cases h0⟩;cases e':H x with
     | none=>rfl
     | some o=>rw [kp x o e'] at h0;cases h0
    ·rw [Lv'.pre i hi] at he;exact alike' i e hi he
  ·have hc:k=Kp.length:=by simp at hc;omega
   walk_at "w";refine qn H5 kp fun w ok=>?_;rcases st with ⟨_,h⟩ | ⟨L,_⟩
   ·rw [h]
   ·obtain ⟨lsx,rootx,distx,hlx,hlxn,Ux,Px⟩:=L.ex;rw [hc] at Px;exact xZ.mp (Px.all (f:=ze ls) (fun e he=>by
     obtain ⟨i,hi⟩:=List.getElem?_of_mem he;exact qz i e (by rw [hc];exact (List.getElem?_eq_some_iff.mp hi).1) hi) ok)
theorem WI:jM ["one","other"] ["one","other"] (j2 Jd):=⟨rfl,rfl,rfl,by decide +kernel,rfl,by decide +kernel,by decide +kernel⟩
theorem j13 (T:Txt K mg t):jd K t.fd_zE ["one","other"] []:=T.F_zE.binds fun _ _ _ _ _ _ us hl=>by obtain ⟨_,_,rfl⟩:=y4 hl;rfl
def j04 (C CO:Addr):Sp:=fun vs H Q E=>∃ (p:Addr) (d:Int) (aw:Addr) (rs:List Addr) (rss:List (List Int)) (al:Addr) (ls:List Bool) (p2:Addr) (d2:Int) (aw2:Addr) (rs2:List Addr) (rss2:List (List Int)) (al2:Addr) (ls2:List Bool),vs=[.ref p,.ref p2]∧qX C H p d aw rs rss al ls∧qX C H p2 d2 aw2 rs2 rss2 al2 ls2∧(d=d2→Q .non H)∧(d≠d2→E (.ref CO) none H)
theorem Wl (T:Txt K mg t):qE P w K mg base (CXr P w) 1 t.f_zE t.fd_zE ["one","other"] (j04 t.C_House t.C_OtherDoors):=by
 refine T.F_zE.okX WI (fun vs H Q E h=>?_) (fun cdv A outer s H vs Q E hr h=>?_)
 ·obtain ⟨p,d,aw,rs,rss,al,ls,p2,d2,aw2,rs2,rss2,al2,ls2,rfl,_⟩:=h;rfl
 ·obtain ⟨p,d,aw,rs,rss,al,ls,p2,d2,aw2,rs2,rss2,al2,ls2,rfl,hh,hh2,q,qe⟩:=h;obtain ⟨dx,ho⟩:=hh.ob;obtain ⟨dx2,ho2⟩:=hh2.ob;refine ⟨_,j6 (jz (jX yg (jJ K (pv 0) rfl) (jJ K (pv 1) rfl) (je _))
 (j6 (xL YU rfl rfl T.mg_OtherDoors T.ex_OtherDoors.toExcCls (j0 (Uy) (j4))))
 (jS)),?_⟩
  walk_at "w";refine ⟨_,rfl,p,_,dx,_,_,rfl,ho,T.cl_House,T.na_House_doors,yd _ _ _,?_⟩;walk_at "w";refine ⟨_,rfl,p2,_,dx2,_,_,rfl,ho2,T.cl_House,T.na_House_doors,yd _ _ _,?_⟩;refine v7 rfl ?_;walk_at "w";refine yo (fun hc=>?_) (fun hc=>?_)
  ·walk_at "w";exact ⟨show 1≤sizeLine by decide,qe (fun z=>by rw [z] at hc;simp at hc)⟩
  ·walk_at "w";exact q (by simpa using hc)
theorem Yn:jM ["one","other","shift","ways","row"] ["one","other"] (j2 kP):=⟨rfl,rfl,rfl,by decide +kernel,rfl,by decide +kernel,by decide +kernel⟩
theorem j08 (T:Txt K mg t):jd K t.fd_za ["one","other"] []:=T.F_za.binds fun _ _ _ _ _ _ us hl=>by obtain ⟨_,_,rfl⟩:=y4 hl;rfl
def WB (K:PySem.W.Frag) (C CO:Addr):Sp:=fun vs H Q E=>∃ (p:Addr) (d:Int) (aw:Addr) (rs:List Addr) (rss:List (List Int)) (al:Addr) (ls:List Bool) (p2:Addr) (d2:Int) (aw2:Addr) (rs2:List Addr) (rss2:List (List Int)) (al2:Addr) (ls2:List Bool),vs=[.ref p,.ref p2]∧qX C H p d aw rs rss al ls∧qX C H p2 d2 aw2 rs2 rss2 al2 ls2∧zA d rss ls∧zA d2 rss2 ls2 ∧
 (d=d2→(∀ H',j7 H H'→(∀ w,jD d w→jh ls (jF rss 0 w)=jh ls2 (jF rss2 0 w))→Q .non H') ∧
  (∀ H' x w,j7 H H'→H' x=some (.lst (w.map V.int))→H x=none→x6 d rss rss2 ls ls2 0 0 w→w.length≤1000→Q (.ref x) H'))∧(d≠d2→E (.ref CO) none H)
theorem K8 (T:Txt K mg t):qE P w K mg base (CXr P w) 5 t.f_za t.fd_za ["one","other"] (WB K t.C_House t.C_OtherDoors):=by
 refine T.F_za.okX Yn (fun vs H Q E h=>?_) (fun cdv A outer s H vs Q E hr h=>?_)
 ·obtain ⟨p,d,aw,rs,rss,al,ls,p2,d2,aw2,rs2,rss2,al2,ls2,rfl,_⟩:=h;rfl
 ·obtain ⟨p,d,aw,rs,rss,al,ls,p2,d2,aw2,rs2,rss2,al2,ls2,rfl,hh,hh2,Vd,Vd2,q,qe⟩:=h;obtain ⟨dx,ho⟩:=hh.ob;obtain ⟨dx2,ho2⟩:=hh2.ob;have h400:=Vd.r400;have h400':=Vd2.r400;have hr1:=Vd.r1;have hr2:=Vd2.r1;have hl1:=Vd.ll;have hl2:=Vd2.ll;refine ⟨_,j3 (jZ (jK (Wl T) (hr.mono (by decide)) rfl T.mg_zE T.F_zE.kp (j13 T) .nil yz.pass (j0 (pv 0) (j0 (pv 1) (j4)))))
 (j3 (jH (i:=2) Yn.nd rfl (Or.inr rfl) (qP (pv 0) T.cl_House T.me_zT (j0U T) (hr.mono (by decide)) (j0y T) .nil jP))
 (j3 (jH (i:=3) Yn.nd rfl (Or.inl rfl) (qG (yw K) rfl T.m_list boot_list (j0 (jJ K (pv 0) rfl) (j4))))
 (j3 (qC yz.own rfl (jp K (jJ K (pv 1) rfl)) (jL (i:=4) Yn.nd rfl (Or.inl rfl))
 (j6 (jZ (qc K PySem.F.plainAttrs_list PySem.F.slot_list_append PySem.F.type_list_append jj (pv 3) (j0 (yS (N:=["one","other","shift","ways","row"]) (sc0:=(j2 kP)) (N':=["way","shift"]) (caps:=[none,some 2]) (by exact ⟨rfl,by decide +kernel,by decide +kernel,by decide +kernel,rfl,rfl,by decide +kernel⟩) rfl (jp K (pv 4)) (fun _ _ _ _ _ _=>jL (i:=0) (show List.Nodup (["way","shift"]:List Str) from by decide +kernel) rfl (Or.inl rfl)) (fun _ _ _ _ _ _=>jq y8 (pv 0) (pv 1))) (j4))))))
 (j6 (jO (jK (WL T) (hr.mono (by decide)) rfl T.mg_zP T.F_zP.kp (j11 T) .nil jP (j0 (pv 3) (j0 (jq qw (jJ K (pv 0) rfl) (jJ K (pv 1) rfl)) (j0 (jG) (j0 (pv 2) (j4))))))))))),?_⟩
  walk_at "w";refine ⟨p,d,aw,rs,rss,al,ls,p2,d2,aw2,rs2,rss2,al2,ls2,rfl,hh,hh2,fun e=>?_,fun e=>qe e⟩;subst e;obtain ⟨q1,q2⟩:=q rfl;walk_at "w";refine ⟨p,dx,_,rfl,ho,vc _ _ _ (by decide +kernel) (by decide +kernel) (by decide +kernel),?_⟩;refine ⟨p,d,aw,rs,rss,al,ls,rfl,hh,?_⟩;walk_at "w";refine ⟨_,rfl,p,_,dx,_,_,rfl,ho,T.cl_House,T.na_House_ways,yO _ _ _,?_⟩;walk_at "w";refine ⟨aw,_,rfl,.inl (SqL.of hh.ways.top),fun jl hjl=>?_⟩;have s1:j7 H (upd H jl (.lst (rs.map V.ref))):=j7.upd_new hjl;have M0:Mat (upd H jl (.lst (rs.map V.ref))) jl rs rss:=by
   refine ⟨j1,hh.ways.len,fun i r row h1 h2=>s1 _ _ (hh.ways.row i r row h1 h2),?_⟩;have hnd:=List.nodup_cons.mp hh.ways.nd;refine List.nodup_cons.mpr ⟨fun hm=>?_,hnd.2⟩;obtain ⟨o,e⟩:=hh.ways.mem (List.mem_cons_of_mem _ hm);rw [e] at hjl;cases hjl
  generalize upd H jl (.lst (rs.map V.ref))=H1 at s1 M0 ⊢;walk_at "w";refine ⟨_,rfl,p2,_,dx2,_,_,rfl,s1 _ _ ho2,T.cl_House,T.na_House_ways,yO _ _ _,?_⟩;refine ⟨aw2,rfl,⟨_,SqL.of (s1 _ _ hh2.ways.top)⟩,?_⟩;refine qT (xs:=rs2.map V.ref) (fun i σ H'=>∃ (rsn:List Addr) (k4:Option V),j7 H H'∧Mat H' jl (rs++rsn) (rss++(rss2.take i).map fun row=>row.map fun way=>way+(rss.length:Int))∧σ=[some (.ref p),some (.ref p2),some (.int (rss.length:Int)),some (.ref jl),k4]) ⟨[],none,s1,by simpa using M0,rfl⟩ (fun i σ H' _ pp=>by obtain ⟨_,_,s',_⟩:=pp;exact SqL.of (s' _ _ hh2.ways.top)) (fun i x σ H2 hx pp=>?_) (fun σ H2 pp=>?_)
  ·obtain ⟨rsn,k4,s2,M2,rfl⟩:=pp;obtain ⟨r,rfl,hr'⟩:=jc hx;have hi:i < rss2.length:=by rw [← hh2.ways.len];exact (List.getElem?_eq_some_iff.mp hr').1
   have hei:=List.getElem?_eq_getElem hi;have hrow:=s2 _ _ (hh2.ways.row i r rss2[i] hr' hei);obtain ⟨hrl,_⟩:=Vd2.row rss2[i] (List.getElem_mem hi);have hd6:=Vd2.d6;have hlen2:=M2.len;walk_at "w";refine ⟨.inl ⟨rfl,_,SqL.of M2.top⟩,?_⟩;walk_at "w";refine ⟨r,rfl,⟨_,SqL.of hrow⟩,?_⟩;refine yF (xs:=rss2[i].map V.int) (fun acc j ys H3=>ys=((rss2[i].take j).map fun way=>way+(rss.length:Int)).map V.int∧H3=upd H2 acc (.lst ys)) (fun acc hacc=>⟨rfl,rfl⟩) (fun acc j ys H3 hacc _ pp=>by rw [pp.2];exact SqL.of (by rw [j5 (jA hrow hacc)];exact hrow)) (fun acc j x ys H3 hacc hx pp=>?_) (fun acc ys H3 hacc pp=>?_)
   ·obtain ⟨rfl,rfl⟩:=pp;have hx0:=qm hx;clear hx;obtain ⟨x,rfl,hx⟩:=hx0;have hj:j < rss2[i].length:=(List.getElem?_eq_some_iff.mp hx).1;walk_at "w";refine ⟨Wk.set rfl,?_⟩;walk_at "w";refine ⟨j1,yH (by simp;omega),?_,?_⟩
    ·rw [xN hx];simp
    ·rw [yr]
   ·obtain ⟨rfl,rfl⟩:=pp;rw [List.length_map,List.take_length];have s3:j7 H2 (upd H2 acc (.lst ((rss2[i].map fun way=>way+(rss.length:Int)).map V.int))):=j7.upd_new hacc;have acv:(upd H2 acc (.lst ((rss2[i].map fun way=>way+(rss.length:Int)).map V.int))) acc=some (.lst ((rss2[i].map fun way=>way+(rss.length:Int)).map V.int)):=j1;generalize upd H2 acc (.lst ((rss2[i].map fun way=>way+(rss.length:Int)).map V.int))=H4 at s3 acv ⊢;walk_at "w";refine ⟨jl,_,_,rfl,rfl,s3 _ _ M2.top,yH (by rw [List.length_map,hlen2];simp;omega),?_⟩;refine ⟨rsn++[acc],_,(s2.trans s3).upd_fresh hjl,?_,rfl⟩;have:=M2.snocM s3 hacc acv;have e:rss++(rss2.take (i+1)).map (fun row=>row.map fun way=>way+(rss.length:Int))=(rss++(rss2.take i).map (fun row=>row.map fun way=>way+(rss.length:Int)))++[rss2[i].map fun way=>way+(rss.length:Int)]:=by
     rw [xN hei,List.map_append,List.append_assoc];rfl
    rw [e,← List.append_assoc];exact this
  ·obtain ⟨rsn,k4,s2,M2,rfl⟩:=pp;rw [List.length_map,hh2.ways.len,List.take_length] at M2;have MJ:Mat H2 jl (rs++rsn) (yZ rss rss2):=M2;walk_at "w";refine ⟨_,rfl,p,_,dx,_,_,rfl,s2 _ _ ho,T.cl_House,T.na_House_lamps,zG _ _ _,?_⟩;walk_at "w";refine ⟨_,rfl,p2,_,dx2,_,_,rfl,s2 _ _ ho2,T.cl_House,T.na_House_lamps,zG _ _ _,?_⟩;refine ⟨al,al2,_,_,rfl,rfl,s2 _ _ hh.lamps,s2 _ _ hh2.lamps,(by rw [List.length_map,List.length_map];exact Nat.le_trans (show _≤200000 by omega) (by decide)),fun lj hlj=>?_⟩;rw [← List.map_append];have s3:j7 H2 (upd H2 lj (.lst ((ls++ls2).map V.bl))):=j7.upd_new hlj;have ljv:(upd H2 lj (.lst ((ls++ls2).map V.bl))) lj=some (.lst ((ls++ls2).map V.bl)):=j1;generalize upd H2 lj (.lst ((ls++ls2).map V.bl))=H3 at s3 ljv ⊢;have jlm:=fun {w:List Int}=>Y8 (w:=w) (ls:=ls) (ls2:=ls2) Vd.toWays Vd2.toWays hl1 (by omega) (by omega);have hjlen:=J5 rss rss2;walk_at "w";refine ⟨_,rs++rsn,yZ rss rss2,lj,ls++ls2,0,(rss.length:Int),d,rfl,MJ.same s3,SqL.of ljv,Zn Vd.toWays Vd2.toWays,Vd.d1,Vd.d6,by omega,by rw [List.length_append];omega,by omega,by omega,by omega,by omega,fun H4 s4 hno=>?_,fun H4 x w s4 hx hxn hP hwl=>?_⟩
   ·refine q1 H4 ((s2.trans s3).trans s4) fun w ok=>?_;have:=hno w ok;rw [(jlm ok).1,(jlm ok).2] at this;exact this
   ·refine q2 H4 x w ((s2.trans s3).trans s4) hx ((s2.trans s3).free hxn) ⟨hP.ok,?_,fun v ok hv=>?_⟩ hwl
    ·have:=hP.un;rw [(jlm hP.ok).1,(jlm hP.ok).2] at this;exact this
    ·have:=hP.least v ok hv;rw [(jlm ok).1,(jlm ok).2] at this;exact this
theorem j09:jM ["self","doors"] ["self","doors"] (j2 JO):=⟨rfl,rfl,rfl,by decide +kernel,rfl,by decide +kernel,by decide +kernel⟩
theorem j0m (T:Txt K mg t):jd K t.fd_ze ["self","doors"] []:=T.F_ze.binds fun _ _ _ _ _ _ us hl=>by obtain ⟨_,_,rfl⟩:=y4 hl;rfl
def wC (C:Addr):Sp:=fun vs H Q _=>∃ (p dx:Addr) (d:Int),vs=[.ref p,.int d]∧H p=some (.ins C dx [])∧1≤d∧d≤6 ∧
 ∀ (H':Hp) (nb:Addr),yy C H' p d nb []→(∀ b o,H b=some o→b≠p→H' b=some o)→H nb=none→Q .non H'
theorem W3 (T:Txt K mg t):qE P w K mg base CX0 2 t.f_ze t.fd_ze ["self","doors"] (wC t.C_Book):=by
 refine T.F_ze.ok j09 (fun vs H Q E h=>?_) (fun cdv A outer s H vs Q E hr h=>?_)
 ·obtain ⟨p,dx,d,rfl,_⟩:=h;rfl
 ·obtain ⟨p,dx,d,rfl,hp,hd1,hd6,q⟩:=h;refine ⟨_,j3 (jZ (jK (KL T) (hr.mono (by decide)) rfl T.mg_zR T.F_zR.kp (j00 T) .nil jP (j0 (pv 1) (j4))))
 (j3 (qx K (pv 0) (pv 1) rfl)
 (j6 (qx K (pv 0) (Qk) rfl))),?_⟩
  walk_at "w";refine ⟨d,rfl,hd1,hd6,?_⟩;walk_at "w";refine ⟨p,_,dx,_,rfl,hp,T.cl_Book,T.na_Book_doors,(by show 0 < 1000;decide),?_⟩;walk_at "w";intro nb hnb;have npn:p≠nb:=fun z=>by rw [← z,j1] at hnb;cases hnb
  have hnb':H nb=none:=by rw [j5 (Ne.symm npn)] at hnb;exact hnb
  walk_at "w";refine ⟨p,_,dx,_,rfl,(by rw [j5 npn];exact j1),T.cl_Book,T.na_Book_noted,(by have h2:=yJ "doors" (.int d) [];simp only [List.length_nil] at h2;omega),?_⟩;refine q _ nb ⟨⟨dx,j1⟩,by rw [j5 (Ne.symm npn),j1];rfl,by simp⟩ (fun b o e hb=>?_) hnb';rw [j5 hb,j5 (jA e hnb'),j5 hb];exact e
theorem wx:jM ["self","word"] ["self","word"] (j2 Jl):=⟨rfl,rfl,rfl,by decide +kernel,rfl,by decide +kernel,by decide +kernel⟩
theorem wS (T:Txt K mg t):jd K t.fd_zf ["self","word"] []:=T.F_zf.binds fun _ _ _ _ _ _ us hl=>by obtain ⟨_,_,rfl⟩:=y4 hl;rfl
def WC (K:PySem.W.Frag) (C CB:Addr):Sp:=fun vs H Q E=>∃ (p:Addr) (d:Int) (nb:Addr) (kvs:List (List Int×Bool)) (b:Addr) (ws:List Int),vs=[.ref p,.ref b]∧yy C H p d nb kvs∧SqL K H b (ws.map V.int)∧zi ws ∧
 (jD d ws→∀ H',j7 H H'→Q (kE kvs ws) H')∧(¬ jD d ws→E (.ref CB) none H)
theorem KJ (T:Txt K mg t):qE P w K mg base (CXr P w) 2 t.f_zf t.fd_zf ["self","word"] (WC K t.C_Book t.C_BadWord):=by
 refine T.F_zf.okX wx (fun vs H Q E h=>?_) (fun cdv A outer s H vs Q E hr h=>?_)
 ·obtain ⟨p,d,nb,kvs,b,ws,rfl,_⟩:=h;rfl
 ·obtain ⟨p,d,nb,kvs,b,ws,rfl,bk,hS,sm,q,qe⟩:=h;obtain ⟨dx,ho⟩:=bk.ob;refine ⟨_,j3 (jZ (jK (Xr T) (hr.mono (by decide)) rfl T.mg_zX T.F_zX.kp (j0T T) .nil yz.pass (j0 (jJ K (pv 0) rfl) (j0 (pv 1) (j4)))))
 (j6 (jO (QU hr.units1 (jJ K (pv 0) rfl) (qG (ju K) rfl T.m_tuple boot_tuple (j0 (pv 1) (j4))) ⟨rfl,rfl,rfl,rfl⟩))),?_⟩
  walk_at "w";refine ⟨_,rfl,p,_,dx,_,_,rfl,ho,T.cl_Book,T.na_Book_doors,ZY _ _,?_⟩;walk_at "w";refine ⟨d,b,ws,rfl,hS,sm,fun hw=>?_,fun nw=>qe nw⟩;walk_at "w";refine ⟨_,rfl,p,_,dx,_,_,rfl,ho,T.cl_Book,T.na_Book_noted,vZ _ _,?_⟩;refine ⟨nb,rfl,.inr ⟨_,.inl bk.noted⟩,?_⟩;walk_at "w";refine ⟨b,_,rfl,.inl ⟨hS,fun tp htp=>?_⟩⟩;refine ⟨_,ym.t (k:=ws.map Sum.inl) (by rw [j5 (jA bk.noted htp)];exact bk.noted) (by rw [j1,zg]),?_⟩;rw [yA];exact q hw _ (j7.upd_new htp)
theorem KB:jM ["self","word","lit","before"] ["self","word","lit"] (j2 Q4):=⟨rfl,rfl,rfl,by decide +kernel,rfl,by decide +kernel,by decide +kernel⟩
theorem WS (T:Txt K mg t):jd K t.fd_zH ["self","word","lit"] []:=T.F_zH.binds fun _ _ _ _ _ _ us hl=>by obtain ⟨_,_,_,rfl⟩:=zX hl;rfl
def wr (K:PySem.W.Frag) (C CB CS:Addr):Sp:=fun vs H Q E=>∃ (p:Addr) (d:Int) (nb:Addr) (kvs:List (List Int×Bool)) (b:Addr) (ws:List Int) (lit:Bool),vs=[.ref p,.ref b,.bl lit]∧yy C H p d nb kvs∧SqL K H b (ws.map V.int)∧zi ws ∧
 (jD d ws→saidO kvs ws≠some (!lit)→∀ H',j7 H H'→Q .non H') ∧
 (jD d ws→saidO kvs ws=some (!lit)→∀ H',j7 H H'→E (.ref CS) none H')∧(¬ jD d ws→E (.ref CB) none H)
theorem K3 (T:Txt K mg t):qE P w K mg base (CXr P w) 3 t.f_zH t.fd_zH ["self","word","lit"] (wr K t.C_Book t.C_BadWord t.C_SaidOtherwise):=by
 refine T.F_zH.okX KB (fun vs H Q E h=>?_) (fun cdv A outer s H vs Q E hr h=>?_)
 ·obtain ⟨p,d,nb,kvs,b,ws,lit,rfl,_⟩:=h;rfl
 ·obtain ⟨p,d,nb,kvs,b,ws,lit,rfl,bk,hS,sm,q1,q3,qe⟩:=h;obtain ⟨dx,ho⟩:=bk.ob;refine ⟨_,j3 (jH (i:=3) KB.nd rfl (Or.inl rfl) (qY (pv 0) T.cl_Book T.me_zf (KJ T) (hr.mono (by decide)) (wS T) .nil yz.pass (j0 (pv 1) (j4))))
 (j6 (jz (PW.pt (UN (jX yc (pv 3) (qf) (je _)) (Xe (jX yg (pv 3) (pv 2) (je _)))))
 (j6 (xL YU rfl rfl T.mg_SaidOtherwise T.ex_SaidOtherwise.toExcCls (j0 (JD (j07 (pv 3) (VY (V0)))) (j4))))
 (jS))),?_⟩
  walk_at "w";refine ⟨p,dx,_,rfl,ho,vb _ _ (by decide +kernel) (by decide +kernel),?_⟩;walk_at "w";refine ⟨p,d,nb,kvs,b,ws,rfl,bk,hS,sm,fun hw H1 hs1=>?_,fun nw=>qe nw⟩;walk_at "w";refine ⟨rfl,?_⟩;walk_at "w";cases hsaid:saidO kvs ws with
  | none =>
   refine jU (by simp [kE,hsaid]) ?_;walk_at "w";refine jU rfl ?_;exact q1 hw (by rw [hsaid];intro z;cases z) _ hs1
  | some c =>
   refine qK (by simp [kE,hsaid]) ?_;walk_at "w";have hv:kE kvs ws=.bl c:=by simp [kE,hsaid]
   rw [hv];refine v7 rfl ?_
   walk_at "w";by_cases hcl:c=lit
   ·subst hcl;refine jU (by simp) ?_;exact q1 hw (by rw [hsaid];intro z;cases c <;> simp at z) _ hs1
   ·have hc2:c=!lit:=by cases c <;> cases lit <;> simp_all
    refine qK (by simpa using hcl) ?_;walk_at "w";exact fun _=>⟨show 1≤sizeLine by decide,q3 hw (by rw [hsaid,hc2]) _ hs1⟩
theorem j05:jM ["self","word","lit"] ["self","word","lit"] (j2 Q3):=⟨rfl,rfl,rfl,by decide +kernel,rfl,by decide +kernel,by decide +kernel⟩
theorem Wz (T:Txt K mg t):jd K t.fd_zg ["self","word","lit"] []:=T.F_zg.binds fun _ _ _ _ _ _ us hl=>by obtain ⟨_,_,_,rfl⟩:=zX hl;rfl
def W5 (K:PySem.W.Frag) (C CB CS:Addr):Sp:=fun vs H Q E=>∃ (p:Addr) (d:Int) (nb:Addr) (kvs:List (List Int×Bool)) (b:Addr) (ws:List Int) (lit:Bool),vs=[.ref p,.ref b,.bl lit]∧yy C H p d nb kvs∧SqL K H b (ws.map V.int)∧zi ws∧kvs.length≤100000 ∧
 (jD d ws→saidO kvs ws=none→∀ H',yy C H' p d nb (kvs++[(ws,lit)])→(∀ y o,y≠nb→H y=some o→H' y=some o)→Q .non H') ∧
 (jD d ws→saidO kvs ws=some lit→∀ H',j7 H H'→Q .non H') ∧
 (jD d ws→saidO kvs ws=some (!lit)→∀ H',j7 H H'→E (.ref CS) none H')∧(¬ jD d ws→E (.ref CB) none H)
theorem KN (T:Txt K mg t):qE P w K mg base (CXr P w) 4 t.f_zg t.fd_zg ["self","word","lit"] (W5 K t.C_Book t.C_BadWord t.C_SaidOtherwise):=by
 refine T.F_zg.okX j05 (fun vs H Q E h=>?_) (fun cdv A outer s H vs Q E hr h=>?_)
 ·obtain ⟨p,d,nb,kvs,b,ws,lit,rfl,_⟩:=h;rfl
 ·obtain ⟨p,d,nb,kvs,b,ws,lit,rfl,bk,hS,sm,h900,q1,q2,q3,qe⟩:=h;obtain ⟨dx,ho⟩:=bk.ob;refine ⟨_,j3 (jZ (qY (pv 0) T.cl_Book T.me_zH (K3 T) (hr.mono (by decide)) (WS T) .nil yz.pass (j0 (pv 1) (j0 (pv 2) (j4)))))
 (j6 (vO hr.units1 (jJ K (pv 0) rfl) (qG (ju K) rfl T.m_tuple boot_tuple (j0 (pv 1) (j4))) (pv 2) rfl)),?_⟩
  walk_at "w";refine ⟨p,dx,_,rfl,ho,vb _ _ (by decide +kernel) (by decide +kernel),?_⟩;walk_at "w";refine ⟨p,d,nb,kvs,b,ws,lit,rfl,bk,hS,sm,fun hw hno H1 hs1=>?_,fun hw hs=>q3 hw hs,fun nw=>qe nw⟩;walk_at "w";have bk1:=bk.same hs1;obtain ⟨dx1,ho1⟩:=bk1.ob;refine ⟨_,rfl,p,_,dx1,_,_,rfl,ho1,T.cl_Book,T.na_Book_noted,vZ _ _,?_⟩;walk_at "w";refine ⟨b,_,rfl,.inl ⟨qa hs1 hS,fun tp htp=>?_⟩⟩;have s2:j7 H1 (upd H1 tp (.tup (ws.map V.int))):=j7.upd_new htp;have tpv:(upd H1 tp (.tup (ws.map V.int))) tp=some (.tup ((ws.map (Sum.inl:Int→Key)).map kV)):=by rw [j1,zg]
  generalize upd H1 tp (.tup (ws.map V.int))=H2 at s2 tpv ⊢;have bk2:=bk1.same s2;refine ⟨nb,_,rfl,xE.t bk2.noted tpv (by rw [List.length_map];exact Nat.lt_of_le_of_lt h900 (by decide)),?_⟩;cases hsaid:saidO kvs ws with
  | none =>
   rw [zI _ (by rw [yA,hsaid];rfl)];walk_at "w";obtain ⟨dx2,ho2⟩:=bk2.ob;have hpn:p≠nb:=vR ho2 bk2.noted (fun z=>nomatch z);refine q1 hw hsaid _ ⟨⟨dx2,by rw [j5 hpn];exact ho2⟩,by rw [j1,List.map_append];rfl,X9 bk.nd hsaid⟩ fun y o hy e=>?_;rw [j5 hy];exact s2 _ _ (hs1 _ _ e)
  | some c =>
   have hc:c=lit:=by
    rw [hsaid] at hno;cases c <;> cases lit <;> simp at hno <;> rfl
   subst hc;rw [YJ bk.nd hsaid];walk_at "w";refine q2 hw hsaid _ fun y o e=>?_;have e2:=s2 _ _ (hs1 _ _ e)
   by_cases hy:y=nb
   ·subst hy;rw [bk2.noted] at e2;rw [j1];exact e2
   ·rw [j5 hy];exact e2
theorem Xw:jM ["self","head","door"] ["self","head"] (j2 JV):=⟨rfl,rfl,rfl,by decide +kernel,rfl,by decide +kernel,by decide +kernel⟩
theorem j01 (T:Txt K mg t):jd K t.fd_zF ["self","head"] []:=T.F_zF.binds fun _ _ _ _ _ _ us hl=>by obtain ⟨_,_,rfl⟩:=y4 hl;rfl
structure LStepA (p a:Addr) (L L':LA) (H H':Hp):Prop where
 kp:∀ b o,b∉qH p L→H b=some o→H' b=some o
 own:∀ b∈yq p L',b∈yq p L∨b=a∨H b=none
 mu:∀ b∈qH p L',b∈qH p L∨H b=none
def wt (C CB:Addr):Sp:=fun vs H Q _=>∃ (p:Addr) (d:Int) (L:LA) (kn:Bk) (heads tails:List (List Int)) (rows:List (List Bool)) (f:Nat) (a:Addr) (w:List Int),vs=[.ref p,.ref a]∧jk C CB H p d L kn heads tails rows f ∧
 H a=some (.lst (w.map V.int))∧a∉qH p L∧0≤d∧d≤6∧heads.length≤400∧w.length≤1000∧rows.length=(jC d heads).length ∧
 ∀ H' L',jk C CB H' p d L' kn (heads++[w]) tails (rows++List.replicate (d.toNat+1) []) f→LStepA p a L L' H H'→Q .non H'
structure HG (p:Addr) (L:LA) (H H':Hp) (a:Addr) (w:List Int) (i:Nat) (es rs:List Addr):Prop where
 kp:∀ b o,b≠L.ha→b≠L.li→b≠L.ro→H b=some o→H' b=some o
 hds:H' L.ha=some (.lst ((L.hA++[a]).map V.ref))
 lns:H' L.li=some (.lst ((L.lA++a :: es).map V.ref))
 lnw:LsAt V.int H' es ((List.range i).map fun (j:Nat)=>w++[(j:Int)])
 rws:H' L.ro=some (.lst ((L.rA++rs).map V.ref))
 rww:∀ b∈rs,H' b=some (.lst (([]:List Bool).map V.bl))
 rnd:rs.Nodup
 new:∀ b,b∈es∨b∈rs→H b=none
theorem K5 (T:Txt K mg t):qE P w K mg base CX0 1 t.f_zF t.fd_zF ["self","head"] (wt t.C_Learner t.C_Book):=by
 refine T.F_zF.ok Xw (fun vs H Q E h=>?_) (fun cdv A outer s H vs Q E hr h=>?_)
 ·obtain ⟨p,d,L,kn,heads,tails,rows,f,a,w,rfl,_⟩:=h;rfl
 ·obtain ⟨p,d,L,kn,heads,tails,rows,f,a,w,rfl,lr,ha,na,hd0,hd6,hh4,hw1,hrl,q⟩:=h;obtain ⟨dx,fs,ho,hf⟩:=lr.ob;have nd:=lr.nd;simp only [qH,List.nodup_cons,List.mem_cons,not_or] at nd;obtain ⟨⟨p1,p2,p3,p4,p5,p6,p7⟩,⟨_,b3,b4,b5,b6,_⟩,⟨c3,c4,c5,c6,_⟩,⟨d4,d5,d6,d7⟩,⟨e5,e6,e7⟩,⟨f6,f7⟩,g7,_⟩:=nd;have na1:a≠L.ha:=fun z=>na (by rw [z];exact Q7);have na2:a≠L.li:=fun z=>na (by rw [z];exact JU);have na3:a≠L.ro:=fun z=>na (by rw [z];exact QN);have lhA:L.hA.length=heads.length:=lr.hdw.len;have llA:L.lA.length=heads.length * (d.toNat+1):=by rw [lr.lnw.len,yI]
  have lrA:L.rA.length=heads.length * (d.toNat+1):=by rw [lr.rww.len,hrl,yI]
  have hb1:heads.length * (d.toNat+1)≤2800:=by
   have:heads.length * (d.toNat+1)≤400 * 7:=Nat.mul_le_mul hh4 (by omega);omega
  refine ⟨_,j3 (jZ (qc K PySem.F.plainAttrs_list PySem.F.slot_list_append PySem.F.type_list_append jj (jJ K (pv 0) rfl) (j0 (pv 1) (j4))))
 (j3 (jZ (qc K PySem.F.plainAttrs_list PySem.F.slot_list_append PySem.F.type_list_append jj (jJ K (pv 0) rfl) (j0 (pv 1) (j4))))
 (j3 (jZ (qc K PySem.F.plainAttrs_list PySem.F.slot_list_append PySem.F.type_list_append jj (jJ K (pv 0) rfl) (j0 (jg (j4)) (j4))))
 (j6 (qC PassesOwn.never rfl (qI rfl T.m_range (j0 (jJ K (pv 0) rfl) (j4))) (jL (i:=2) Xw.nd rfl (Or.inl rfl))
 (j3 (jZ (qc K PySem.F.plainAttrs_list PySem.F.slot_list_append PySem.F.type_list_append jj (jJ K (pv 0) rfl) (j0 (jq qw (pv 1) (jg (j0 (pv 2) (j4)))) (j4))))
 (j6 (jZ (qc K PySem.F.plainAttrs_list PySem.F.slot_list_append PySem.F.type_list_append jj (jJ K (pv 0) rfl) (j0 (jg (j4)) (j4)))))))))),?_⟩
  walk_at "w";refine ⟨_,rfl,p,_,dx,_,_,rfl,ho,T.cl_Learner,T.na_Learner_heads,hf.heads,?_⟩;walk_at "w";refine ⟨.inl ⟨rfl,_,SqL.of lr.hds⟩,?_⟩;walk_at "w";refine ⟨L.ha,_,_,rfl,rfl,lr.hds,qj (by rw [List.length_map];omega),?_⟩;walk_at "w";refine ⟨_,rfl,p,_,dx,_,_,rfl,by rw [j5 p3];exact ho,T.cl_Learner,T.na_Learner_lines,hf.lines,?_⟩;walk_at "w";have li1:(upd H L.ha (.lst (L.hA.map V.ref++[.ref a]))) L.li=some (.lst (L.lA.map V.ref)):=by rw [j5 (Ne.symm d5)];exact lr.lns
  refine ⟨.inl ⟨rfl,_,SqL.of li1⟩,?_⟩;walk_at "w";refine ⟨L.li,_,_,rfl,rfl,li1,qj (by rw [List.length_map];omega),?_⟩;walk_at "w";refine ⟨_,rfl,p,_,dx,_,_,rfl,by rw [j5 p5,j5 p3];exact ho,T.cl_Learner,T.na_Learner_rows,hf.rows,?_⟩;walk_at "w";have ro1:(upd (upd H L.ha (.lst (L.hA.map V.ref++[.ref a]))) L.li (.lst (L.lA.map V.ref++[.ref a]))) L.ro=some (.lst (L.rA.map V.ref)):=by rw [j5 (Ne.symm f6),j5 (Ne.symm d6)];exact lr.rws
  refine ⟨.inl ⟨rfl,_,SqL.of ro1⟩,?_⟩;walk_at "w";refine ⟨Nat.zero_le _,fun r0 hr0=>?_⟩;walk_at "w";have hr0H:H r0=none:=by
   by_cases z1:r0=L.li
   ·rw [z1,j1] at hr0;cases hr0
   ·rw [j5 z1] at hr0
    by_cases z2:r0=L.ha
    ·rw [z2,j1] at hr0;cases hr0
    ·rw [j5 z2] at hr0;exact hr0
  have nr1:L.ha≠r0:=jA lr.hds hr0H;have nr2:L.li≠r0:=jA lr.lns hr0H;have nr3:L.ro≠r0:=jA lr.rws hr0H;refine ⟨L.ro,_,_,rfl,rfl,by rw [j5 nr3];exact ro1,qj (by rw [List.length_map];omega),?_⟩;have G0:HG p L H (upd (upd (upd (upd H L.ha (.lst (L.hA.map V.ref++[.ref a]))) L.li (.lst (L.lA.map V.ref++[.ref a]))) r0 (.lst [])) L.ro (.lst (L.rA.map V.ref++[.ref r0]))) a w 0 [] [r0]:=by
   refine ⟨fun b o h1 h2 h3 e=>?_,?_,?_,⟨rfl,fun i b v h1 h2=>by simp at h1⟩,?_,fun b hb=>?_,by simp,fun b hb=>?_⟩
   ·rw [j5 h3,j5 (jA e hr0H),j5 h2,j5 h1];exact e
   ·rw [j5 d6,j5 nr1,j5 d5,j1,List.map_append];rfl
   ·rw [j5 f6,j5 nr2,j1,List.map_append];rfl
   ·rw [j1,List.map_append];rfl
   ·rw [List.mem_singleton.mp hb,j5 (Ne.symm nr3),j1];rfl
   ·rcases hb with hb | hb
    ·exact nomatch hb
    ·rw [List.mem_singleton.mp hb];exact hr0H
  generalize upd (upd (upd (upd H L.ha (.lst (L.hA.map V.ref++[.ref a]))) L.li (.lst (L.lA.map V.ref++[.ref a]))) r0 (.lst [])) L.ro (.lst (L.rA.map V.ref++[.ref r0]))=H1 at G0 ⊢;walk_at "w";refine ⟨_,rfl,p,_,dx,_,_,rfl,G0.kp _ _ p3 p5 p6 ho,T.cl_Learner,T.na_Learner_doors,hf.doors,?_⟩;walk_at "w";refine ⟨_,rfl,by omega,by omega,?_⟩;refine qR (fun i σ H'=>∃ es rs,es.length=i∧rs.length=i+1∧HG p L H H' a w i es rs∧∃ k2,σ=[some (.ref p),some (.ref a),k2]) ⟨[],[r0],rfl,rfl,G0,_,rfl⟩ (fun i σ H2 hi pp=>?_) (fun σ H2 pp=>?_)
  ·obtain ⟨es,rs,hes,hrs,G,k2,rfl⟩:=pp;have e0:(0:Int)+(i:Int)=(i:Int):=by omega
   rw [e0];walk_at "w";refine ⟨_,rfl,p,_,dx,_,_,rfl,G.kp _ _ p3 p5 p6 ho,T.cl_Learner,T.na_Learner_lines,hf.lines,?_⟩;walk_at "w";refine ⟨.inl ⟨rfl,_,SqL.of G.lns⟩,?_⟩;walk_at "w";refine ⟨by show 1≤sizeLine;decide,fun c1 hc1=>?_⟩;have hc1H:H c1=none:=by
    cases hh:H c1 with
    | none=>rfl
    | some o =>
     rw [G.kp c1 o (fun z=>by rw [z,G.hds] at hc1;cases hc1) (fun z=>by rw [z,G.lns] at hc1;cases hc1) (fun z=>by rw [z,G.rws] at hc1;cases hc1) hh] at hc1;cases hc1
   have s3:j7 H2 (upd H2 c1 (.lst [.int (i:Int)])):=j7.upd_new hc1;have c13:(upd H2 c1 (.lst [.int (i:Int)])) c1=some (.lst [.int (i:Int)]):=j1;have G3:HG p L H (upd H2 c1 (.lst [.int (i:Int)])) a w i es rs:=⟨fun b o h1 h2 h3 e=>s3 _ _ (G.kp b o h1 h2 h3 e),s3 _ _ G.hds,s3 _ _ G.lns,G.lnw.keep fun b _ o=>s3 b o,s3 _ _ G.rws,fun b hb=>s3 _ _ (G.rww b hb),G.rnd,G.new⟩;generalize upd H2 c1 (.lst [.int (i:Int)])=H3 at s3 c13 G3 ⊢;refine ⟨a,c1,_,_,rfl,rfl,G3.kp _ _ na1 na2 na3 ha,c13,Nat.le_of_lt (qj (by simp;omega)),fun c2 hc2=>?_⟩;have ec2:w.map V.int++[V.int (i:Int)]=(w++[(i:Int)]).map V.int:=by rw [List.map_append];rfl
   rw [ec2];have hc2H:H c2=none:=by
    cases hh:H c2 with
    | none=>rfl
    | some o =>
     rw [G3.kp c2 o (fun z=>by rw [z,G3.hds] at hc2;cases hc2) (fun z=>by rw [z,G3.lns] at hc2;cases hc2) (fun z=>by rw [z,G3.rws] at hc2;cases hc2) hh] at hc2;cases hc2
   have ncl:L.li≠c2:=jA G3.lns hc2;have nch:L.ha≠c2:=jA G3.hds hc2;have ncr:L.ro≠c2:=jA G3.rws hc2;walk_at "w";refine ⟨L.li,_,_,rfl,rfl,by rw [j5 ncl];exact G3.lns,qj (by rw [List.length_map,List.length_append,List.length_cons];omega),?_⟩;have nes:∀ b∈es,b≠L.li:=fun b hb=>by have:=G3.new b (.inl hb);intro z;rw [z,lr.lns] at this;cases this
   have nrs:∀ b∈rs,b≠L.li:=fun b hb=>by have:=G3.new b (.inr hb);intro z;rw [z,lr.lns] at this;cases this
   have k4:∀ b o,b≠L.li→H3 b=some o→upd (upd H3 c2 (.lst ((w++[(i:Int)]).map V.int))) L.li (.lst ((L.lA++a :: es).map V.ref++[.ref c2])) b=some o:=fun b o h1 e=>by
    rw [j5 h1,j5 (jA e hc2)];exact e
   have c24:upd (upd H3 c2 (.lst ((w++[(i:Int)]).map V.int))) L.li (.lst ((L.lA++a :: es).map V.ref++[.ref c2])) c2=some (.lst ((w++[(i:Int)]).map V.int)):=by rw [j5 (Ne.symm ncl),j1]
   have li4:upd (upd H3 c2 (.lst ((w++[(i:Int)]).map V.int))) L.li (.lst ((L.lA++a :: es).map V.ref++[.ref c2])) L.li=some (.lst ((L.lA++a :: (es++[c2])).map V.ref)):=by
    rw [j1];simp
   generalize upd (upd H3 c2 (.lst ((w++[(i:Int)]).map V.int))) L.li (.lst ((L.lA++a :: es).map V.ref++[.ref c2]))=H4 at k4 c24 li4 ⊢;walk_at "w";refine ⟨_,rfl,p,_,dx,_,_,rfl,k4 _ _ p5 (G3.kp _ _ p3 p5 p6 ho),T.cl_Learner,T.na_Learner_rows,hf.rows,?_⟩;walk_at "w";have ro4:=k4 _ _ (Ne.symm f6) G3.rws;refine ⟨.inl ⟨rfl,_,SqL.of ro4⟩,?_⟩;walk_at "w";refine ⟨Nat.zero_le _,fun r5 hr5=>?_⟩;walk_at "w";have nr5:L.ro≠r5:=jA ro4 hr5;refine ⟨L.ro,_,_,rfl,rfl,by rw [j5 nr5];exact ro4,qj (by rw [List.length_map,List.length_append];omega),?_⟩;have hr5H:H r5=none:=by
    cases hh:H r5 with
    | none=>rfl
    | some o =>
     have z1:r5≠L.li:=fun z=>by rw [z,li4] at hr5;cases hr5
     have z2:r5≠L.ha:=fun z=>by rw [z,k4 _ _ d5 G3.hds] at hr5;cases hr5
     rw [k4 _ _ z1 (G3.kp r5 o z2 z1 (Ne.symm nr5) hh)] at hr5;cases hr5
   have k6:∀ b o,b≠L.ro→H4 b=some o→upd (upd H4 r5 (.lst [])) L.ro (.lst ((L.rA++rs).map V.ref++[.ref r5])) b=some o:=fun b o h1 e=>by
    rw [j5 h1,j5 (jA e hr5)];exact e
   have nesr:∀ b,H b=none→b≠L.ro:=fun b hb z=>by rw [z,lr.rws] at hb;cases hb
   have r5rs:r5∉rs:=fun z=>by rw [k4 _ _ (nrs _ z) (G3.rww _ z)] at hr5;cases hr5
   refine ⟨es++[c2],rs++[r5],by simp [hes],by simp [hrs],⟨fun b o h1 h2 h3 e=>k6 _ _ h3 (k4 _ _ h2 (G3.kp b o h1 h2 h3 e)),k6 _ _ d6 (k4 _ _ d5 G3.hds),k6 _ _ f6 li4,?_,?_,fun b hb=>?_,?_,fun b hb=>?_⟩,_,rfl⟩
   ·rw [qS];refine LsAt.snoc (G3.lnw.keep fun b hb o e=>k6 _ _ (nesr _ (G3.new b (.inl hb))) (k4 _ _ (nes b hb) e)) (k6 _ _ (nesr _ hc2H) c24)
   ·rw [j1];simp
   ·rcases List.mem_append.mp hb with hb | hb
    ·exact k6 _ _ (nesr _ (G3.new b (.inr hb))) (k4 _ _ (nrs b hb) (G3.rww b hb))
    ·rw [List.mem_singleton.mp hb,j5 (Ne.symm nr5),j1];rfl
   ·exact zm G3.rnd r5rs
   ·rcases hb with hb | hb
    ·rcases List.mem_append.mp hb with hb | hb
     ·exact G3.new b (.inl hb)
     ·rw [List.mem_singleton.mp hb];exact hc2H
    ·rcases List.mem_append.mp hb with hb | hb
     ·exact G3.new b (.inr hb)
     ·rw [List.mem_singleton.mp hb];exact hr5H
  ·obtain ⟨es,rs,hes,hrs,G,k2,rfl⟩:=pp;obtain ⟨bx,hbk⟩:=lr.book.ob;have k:∀ b o,b∉[L.ha,L.li,L.ro]→H b=some o→H2 b=some o:=fun b o hb e=>by
    simp only [List.mem_cons,List.not_mem_nil,or_false,not_or] at hb;exact G.kp b o hb.1 hb.2.1 hb.2.2 e
   have kw:∀ b∈v8 L,b∉[L.ha,L.li,L.ro]:=fun b hb z=>by
    simp only [List.mem_cons,List.not_mem_nil,or_false] at z;rcases z with z | z | z
    ·exact lr.sep b hb (by rw [z];exact Q7)
    ·exact lr.sep b hb (by rw [z];exact JU)
    ·exact lr.sep b hb (by rw [z];exact QN)
   have a2:H2 a=some (.lst (w.map V.int)):=G.kp _ _ na1 na2 na3 ha;have hnm:∀ b,H b=none→b∉qH p L:=fun b hb z=>lr.notOwn hb (jx z);have er:es=List.map id es:=by simp
   refine q H2 { L with hA:=L.hA++[a],lA:=L.lA++a :: es,rA:=L.rA++rs } ⟨⟨dx,fs,k _ _ (by simp;exact ⟨p3,p5,p6⟩) ho,hf.of rfl rfl rfl rfl rfl⟩,⟨⟨bx,k _ _ (by simp;exact ⟨b3,b5,b6⟩) hbk⟩,k _ _ (by simp;exact ⟨c3,c5,c6⟩) lr.book.noted,lr.book.nd⟩,G.hds,LsAt.snoc (lr.hdw.keep fun b hb o=>k b o (kw b (kQ hb))) a2,k _ _ (by simp;exact ⟨Ne.symm d4,e5,e6⟩) lr.tls,lr.tlw.keep fun b hb o=>k b o (kw b (kT hb)),G.lns,?_,G.rws,?_,?_,?_⟩ ⟨fun b o hb e=>?_,fun b hb=>?_,fun b hb=>?_⟩
   ·rw [yL];have l1:LsAt V.int H2 (L.lA++[a]) (jC d heads++[w]):=LsAt.snoc (lr.lnw.keep fun b hb o=>k b o (kw b (vq hb))) a2;have:=LsAt.app l1 G.lnw;rw [List.append_assoc,List.append_assoc] at this;have hdn:(d:Int).toNat=d.toNat:=rfl;exact this
   ·refine LsAt.app (lr.rww.keep fun b hb o=>k b o fun z=>?_) ⟨by rw [hrs,List.length_replicate],fun i b v h1 h2=>?_⟩
    ·simp only [List.mem_cons,List.not_mem_nil,or_false] at z;rcases z with z | z | z
     ·exact d7 (by rw [← z];exact hb)
     ·exact f7 (by rw [← z];exact hb)
     ·exact g7 (by rw [← z];exact hb)
    ·rw [(List.mem_replicate.mp (List.mem_of_getElem? h2)).2];exact G.rww b (List.mem_of_getElem? h1)
   ·show (p :: L.bk :: L.nb :: L.ha :: L.ta :: L.li :: L.ro :: (L.rA++rs)).Nodup;have:(qH p L++rs).Nodup:=List.nodup_append.mpr ⟨lr.nd,G.rnd,fun x hx y hy e=>hnm y (G.new y (.inr hy)) (by rw [← e];exact hx)⟩;exact this
   ·intro b hb z;have hz:b∈qH p L++rs:=z;have hb':b∈v8 L∨b=a∨b∈es:=by
     rcases List.mem_append.mp hb with hb | hb
     ·rcases List.mem_append.mp hb with hb | hb
      ·rcases List.mem_append.mp hb with hb | hb
       ·exact .inl (kQ hb)
       ·exact .inr (.inl (List.mem_singleton.mp hb))
      ·exact .inl (kT hb)
     ·rcases List.mem_append.mp hb with hb | hb
      ·exact .inl (vq hb)
      ·rcases List.mem_cons.mp hb with hb | hb
       ·exact .inr (.inl hb)
       ·exact .inr (.inr hb)
    rcases List.mem_append.mp hz with hz | hz
    ·rcases hb' with hb | hb | hb
     ·exact lr.sep b hb hz
     ·exact na (by rw [← hb];exact hz)
     ·exact hnm b (G.new b (.inl hb)) hz
    ·have hn:=G.new b (.inr hz);rcases hb' with hb | hb | hb
     ·exact lr.notOwn hn (yi hb)
     ·rw [hb,ha] at hn;cases hn
     ·obtain ⟨v,hv,e⟩:=G.lnw.mem hb;rw [G.rww b hz] at e;obtain ⟨j,_,rfl⟩:=List.mem_map.mp hv;simp at e
   ·exact k b o (fun z=>hb (by
     simp only [List.mem_cons,List.not_mem_nil,or_false] at z;rcases z with z | z | z
     ·rw [z];exact Q7
     ·rw [z];exact JU
     ·rw [z];exact QN)) e
   ·rcases List.mem_append.mp hb with hb | hb
    ·have hb:b∈qH p L++rs:=hb;rcases List.mem_append.mp hb with hb | hb
     ·exact .inl (jx hb)
     ·exact .inr (.inr (G.new b (.inr hb)))
    ·rcases List.mem_append.mp hb with hb | hb
     ·rcases List.mem_append.mp hb with hb | hb
      ·rcases List.mem_append.mp hb with hb | hb
       ·exact .inl (yi (kQ hb))
       ·exact .inr (.inl (List.mem_singleton.mp hb))
      ·exact .inl (yi (kT hb))
     ·rcases List.mem_append.mp hb with hb | hb
      ·exact .inl (yi (vq hb))
      ·rcases List.mem_cons.mp hb with hb | hb
       ·exact .inr (.inl hb)
       ·exact .inr (.inr (G.new b (.inl hb)))
   ·have hb:b∈qH p L++rs:=hb;rcases List.mem_append.mp hb with hb | hb
    ·exact .inl hb
    ·exact .inr (G.new b (.inr hb))
theorem wL:jM ["self","doors"] ["self","doors"] (j2 Jh):=⟨rfl,rfl,rfl,by decide +kernel,rfl,by decide +kernel,by decide +kernel⟩
theorem j1D (T:Txt K mg t):jd K t.fd_zQ ["self","doors"] []:=T.F_zQ.binds fun _ _ _ _ _ _ us hl=>by obtain ⟨_,_,rfl⟩:=y4 hl;rfl
def Wo (C CB:Addr):Sp:=fun vs H Q _=>∃ (p dx:Addr) (d:Int),vs=[.ref p,.int d]∧H p=some (.ins C dx [])∧1≤d∧d≤6 ∧
 ∀ (H':Hp) (L:LA),jk C CB H' p d L [] [[]] [[]] (List.replicate (d.toNat+1) []) 0→(∀ b o,H b=some o→b≠p→H' b=some o)→(∀ b∈yq p L,b≠p→H b=none)→Q .non H'
structure Stg (H:Hp) (C p dx:Addr) (Hc:Hp) (fs:List (Str×V)) (xs:List (Addr×HO)):Prop where
 ob:Hc p=some (.ins C dx fs)
 is:∀ x∈xs,Hc x.1=some x.2∧H x.1=none
 nd:(p :: xs.map Prod.fst).Nodup
 kp:∀ b o,H b=some o→b≠p→Hc b=some o
theorem Stg.new {H:Hp} {C p dx:Addr} {Hc:Hp} {fs:List (Str×V)} {xs:List (Addr×HO)} (S:Stg H C p dx Hc fs xs) {l:Addr} (hl:Hc l=none) (o:HO):Stg H C p dx (upd Hc l o) fs ((l,o) :: xs):=by
 have hp:p≠l:=jA S.ob hl;have hn:H l=none:=by
  cases hh:H l with
  | none=>rfl
  | some u=>rw [S.kp l u hh (Ne.symm hp)] at hl;cases hl
 have hx:l∉xs.map Prod.fst:=fun z=>by
  obtain ⟨x,hx,rfl⟩:=List.mem_map.mp z;rw [(S.is x hx).1] at hl;cases hl
 have nd:=List.nodup_cons.mp S.nd;refine ⟨by rw [j5 hp];exact S.ob,fun x hx'=>?_,?_,fun b u e hb=>?_⟩
 ·rcases List.mem_cons.mp hx' with rfl | hx'
  ·exact ⟨j1,hn⟩
  ·refine ⟨?_,(S.is x hx').2⟩;rw [j5 (fun z=>hx (List.mem_map.mpr ⟨x,hx',z⟩))];exact (S.is x hx').1
 ·rw [List.map_cons];refine List.nodup_cons.mpr ⟨fun z=>?_,List.nodup_cons.mpr ⟨hx,nd.2⟩⟩;rcases List.mem_cons.mp z with z | z
  ·exact hp z
  ·exact nd.1 z
 ·rw [j5 (jA e hn)];exact S.kp b u e hb
theorem Stg.put {H:Hp} {C p dx:Addr} {Hc:Hp} {fs:List (Str×V)} {xs:List (Addr×HO)} (S:Stg H C p dx Hc fs xs) (fs':List (Str×V)):Stg H C p dx (upd Hc p (.ins C dx fs')) fs' xs:=by
 have nd:=List.nodup_cons.mp S.nd;refine ⟨j1,fun x hx=>?_,S.nd,fun b u e hb=>by rw [j5 hb];exact S.kp b u e hb⟩;rw [j5 (fun z=>nd.1 (List.mem_map.mpr ⟨x,hx,z⟩))];exact S.is x hx
theorem Stg.none {H:Hp} {C p dx:Addr} {Hc:Hp} {fs:List (Str×V)} {xs:List (Addr×HO)} (S:Stg H C p dx Hc fs xs) {b:Addr} (h:b∈xs.map Prod.fst):H b=Option.none:=by
 obtain ⟨x,hx,rfl⟩:=List.mem_map.mp h;exact (S.is x hx).2
theorem Wi (T:Txt K mg t):qE P w K mg base CX0 4 t.f_zQ t.fd_zQ ["self","doors"] (Wo t.C_Learner t.C_Book):=by
 refine T.F_zQ.ok wL (fun vs H Q E h=>?_) (fun cdv A outer s H vs Q E hr h=>?_)
 ·obtain ⟨p,dx,d,rfl,_⟩:=h;rfl
 ·obtain ⟨p,dx,d,rfl,hp,hd1,hd6,q⟩:=h;refine ⟨_,j3 (qx K (pv 0) (xI T.mk_Book (W3 T) (hr.mono (by decide)) rfl T.mg_Book (j0m T) .nil jP (j0 (pv 1) (j4))) rfl)
 (j3 (qx K (pv 0) (pv 1) rfl)
 (j3 (qx K (pv 0) (jg (j4)) rfl)
 (j3 (qx K (pv 0) (jg (j0 (jg (j4)) (j4))) rfl)
 (j3 (qx K (pv 0) (jg (j4)) rfl)
 (j3 (qx K (pv 0) (jg (j4)) rfl)
 (j3 (qx K (pv 0) (jG) rfl)
 (j6 (jZ (qY (pv 0) T.cl_Learner T.me_zF (K5 T) (hr.mono (by decide)) (j01 T) .nil jP (j0 (jg (j4)) (j4))))))))))),?_⟩
  walk_at "w";intro bk bdx n1 n2 n3;have sm:j7 H (upd (upd H bdx (.own bk)) bk (.ins t.C_Book bdx [])):=(j7.upd_new n2).trans (j7.upd_new (by rw [j5 (Ne.symm n3)];exact n1));refine ⟨bk,bdx,d,rfl,j1,hd1,hd6,fun H1 nb B1 keep1 new1=>⟨rfl,?_⟩⟩;have s1:j7 H H1:=fun b o e=>keep1 b o (sm b o e) (jA e n1);have hnb:H nb=none:=sm.free new1;have hbk:H bk=none:=n1;obtain ⟨bx,hb⟩:=B1.ob;have S0:Stg H t.C_Learner p dx H1 [] [(nb,.dT (([]:Bk).map bkv)),(bk,.ins t.C_Book bx (bkf d nb))]:=by
   refine ⟨s1 _ _ hp,fun x hx=>?_,?_,fun b o e _=>s1 b o e⟩
   ·rcases List.mem_cons.mp hx with rfl | hx
    ·exact ⟨B1.noted,hnb⟩
    ·rw [List.mem_singleton.mp hx];exact ⟨hb,hbk⟩
   ·have h1:p≠nb:=jA hp hnb;have h2:p≠bk:=jA hp hbk;have h3:nb≠bk:=Ne.symm (vR hb B1.noted (fun z=>nomatch z));simp [h1,h2,h3]
  clear keep1 new1 sm;have hlen:∀ {k:Nat} {fs:List (Str×V)} (f:Str) (v:V),fs.length≤k→(jo f v fs).length≤k+1:=fun f v h=>Nat.le_trans (yJ f v _) (by omega);have z0:([]:List (Str×V)).length≤0:=Nat.le_refl _;walk_at "w";refine ⟨p,_,dx,_,rfl,S0.ob,T.cl_Learner,T.na_Learner_book,(by show 0 < 1000;decide),?_⟩;have S1:=S0.put (jo "book" (.ref bk) []);have z1:=hlen "book" (.ref bk) z0;generalize upd H1 p _=H2 at S1 ⊢;walk_at "w";refine ⟨p,_,dx,_,rfl,S1.ob,T.cl_Learner,T.na_Learner_doors,by omega,?_⟩;have S2:=S1.put (jo "doors" (.int d) (jo "book" (.ref bk) []));have z2:=hlen "doors" (.int d) z1;generalize upd H2 p _=H3 at S2 ⊢;walk_at "w";refine ⟨Nat.zero_le _,fun ha hha=>?_⟩;have S3:=S2.new hha (.lst []);generalize upd H3 ha _=H4 at S3 ⊢;walk_at "w";refine ⟨p,_,dx,_,rfl,S3.ob,T.cl_Learner,T.na_Learner_heads,by omega,?_⟩;have S4:=S3.put (jo "heads" (.ref ha) (jo "doors" (.int d) (jo "book" (.ref bk) [])));have z4:=hlen "heads" (.ref ha) z2;generalize upd H4 p _=H5 at S4 ⊢;walk_at "w";refine ⟨Nat.zero_le _,fun em hem=>?_⟩;have S5:=S4.new hem (.lst []);generalize upd H5 em _=H6 at S5 ⊢;walk_at "w";refine ⟨by show 1≤sizeLine;decide,fun ta hta=>?_⟩;have S6:=S5.new hta (.lst [.ref em]);generalize upd H6 ta _=H7 at S6 ⊢;walk_at "w";refine ⟨p,_,dx,_,rfl,S6.ob,T.cl_Learner,T.na_Learner_tails,by omega,?_⟩;have S7:=S6.put (jo "tails" (.ref ta) (jo "heads" (.ref ha) (jo "doors" (.int d) (jo "book" (.ref bk) []))));have z7:=hlen "tails" (.ref ta) z4;generalize upd H7 p _=H8 at S7 ⊢;walk_at "w";refine ⟨Nat.zero_le _,fun li hli=>?_⟩;have S8:=S7.new hli (.lst []);generalize upd H8 li _=H9 at S8 ⊢;walk_at "w";refine ⟨p,_,dx,_,rfl,S8.ob,T.cl_Learner,T.na_Learner_lines,by omega,?_⟩;have S9:=S8.put (jo "lines" (.ref li) (jo "tails" (.ref ta) (jo "heads" (.ref ha) (jo "doors" (.int d) (jo "book" (.ref bk) [])))));have z9:=hlen "lines" (.ref li) z7;generalize upd H9 p _=H10 at S9 ⊢;walk_at "w";refine ⟨Nat.zero_le _,fun ro hro=>?_⟩;have S10:=S9.new hro (.lst []);generalize upd H10 ro _=H11 at S10 ⊢;walk_at "w";refine ⟨p,_,dx,_,rfl,S10.ob,T.cl_Learner,T.na_Learner_rows,by omega,?_⟩;have S11:=S10.put (jo "rows" (.ref ro) (jo "lines" (.ref li) (jo "tails" (.ref ta) (jo "heads" (.ref ha) (jo "doors" (.int d) (jo "book" (.ref bk) []))))));have z11:=hlen "rows" (.ref ro) z9;generalize upd H11 p _=H12 at S11 ⊢;walk_at "w";refine ⟨p,_,dx,_,rfl,S11.ob,T.cl_Learner,T.na_Learner_filled,by omega,?_⟩;have S12:=S11.put (jo "filled" (.int 0) (jo "rows" (.ref ro) (jo "lines" (.ref li) (jo "tails" (.ref ta) (jo "heads" (.ref ha) (jo "doors" (.int d) (jo "book" (.ref bk) [])))))));have z12:=hlen "filled" (.int 0) z11;generalize upd H12 p _=H13 at S12 ⊢
  have F:LFs (jo "filled" (.int 0) (jo "rows" (.ref ro) (jo "lines" (.ref li) (jo "tails" (.ref ta) (jo "heads" (.ref ha) (jo "doors" (.int d) (jo "book" (.ref bk) []))))))) d ⟨bk,nb,ha,ta,li,ro,[],[em],[],[]⟩ 0:=by
   have s (f g:Str) (h:¬ g=f) (v:V) (fs:List (Str×V)):(jo f v fs).lookup g=fs.lookup g:=by rw [ja,if_neg h]
   have e (f:Str) (v:V) (fs:List (Str×V)):(jo f v fs).lookup f=some v:=by rw [ja,if_pos rfl]
   refine ⟨?_,?_,?_,?_,?_,?_,?_,fun m hm=>?_,by omega⟩
   ·rw [s _ _ (by decide +kernel),s _ _ (by decide +kernel),s _ _ (by decide +kernel),s _ _ (by decide +kernel),s _ _ (by decide +kernel),s _ _ (by decide +kernel),e]
   ·rw [s _ _ (by decide +kernel),s _ _ (by decide +kernel),s _ _ (by decide +kernel),s _ _ (by decide +kernel),s _ _ (by decide +kernel),e]
   ·rw [s _ _ (by decide +kernel),s _ _ (by decide +kernel),s _ _ (by decide +kernel),s _ _ (by decide +kernel),e]
   ·rw [s _ _ (by decide +kernel),s _ _ (by decide +kernel),s _ _ (by decide +kernel),e]
   ·rw [s _ _ (by decide +kernel),s _ _ (by decide +kernel),e]
   ·rw [s _ _ (by decide +kernel),e]
   ·rw [e];rfl
   ·simp only [List.mem_cons,List.not_mem_nil,or_false,not_or] at hm;obtain ⟨m1,m2,m3,m4,m5,m6,m7⟩:=hm;rw [s _ _ m7,s _ _ m6,s _ _ m5,s _ _ m4,s _ _ m3,s _ _ m2,s _ _ m1];rfl
  have X12:=S12.is;have N12:=S12.nd;simp only [List.map_cons,List.map_nil,List.nodup_cons,List.mem_cons,List.not_mem_nil,or_false,not_or] at N12;obtain ⟨⟨a1,a2,a3,a4,a5,a6,a7⟩,⟨b2,b3,b4,b5,b6,b7⟩,⟨c3,c4,c5,c6,c7⟩,⟨d4,d5,d6,d7⟩,⟨e5,e6,e7⟩,⟨f6,f7⟩,g7,_⟩:=N12;have lr:jk t.C_Learner t.C_Book H13 p d ⟨bk,nb,ha,ta,li,ro,[],[em],[],[]⟩ [] [] [[]] [] 0:=by
   refine ⟨⟨dx,_,S12.ob,F⟩,⟨⟨bx,(X12 (bk,_) (by simp)).1⟩,(X12 (nb,_) (by simp)).1,by simp⟩,(X12 (ha,_) (by simp)).1,⟨rfl,fun i b v h1 h2=>by simp at h1⟩,(X12 (ta,_) (by simp)).1,⟨rfl,fun i b v h1 h2=>?_⟩,(X12 (li,_) (by simp)).1,⟨rfl,fun i b v h1 h2=>by simp at h1⟩,(X12 (ro,_) (by simp)).1,⟨rfl,fun i b v h1 h2=>by simp at h1⟩,?_,fun b hb=>?_⟩
   ·cases i with
    | zero=>simp at h1 h2;subst h1 h2;exact (X12 (em,_) (by simp)).1
    | succ i=>simp at h1
   ·simp only [qH,List.nodup_cons,List.mem_cons,List.not_mem_nil,or_false,not_or];exact ⟨⟨a7,a6,a5,a3,a2,a1⟩,⟨Ne.symm g7,Ne.symm f7,Ne.symm d7,Ne.symm c7,Ne.symm b7⟩,⟨Ne.symm f6,Ne.symm d6,Ne.symm c6,Ne.symm b6⟩,⟨Ne.symm d5,Ne.symm c5,Ne.symm b5⟩,⟨Ne.symm c3,Ne.symm b3⟩,Ne.symm b2,by simp,by simp⟩
   ·have hb:b=em:=by simpa [v8] using hb
    subst hb;simp only [qH,List.mem_cons,List.not_mem_nil,or_false,not_or];exact ⟨Ne.symm a4,e7,e6,e5,Ne.symm d4,Ne.symm c4,Ne.symm b4⟩
  walk_at "w";refine ⟨p,dx,_,rfl,S12.ob,F.no _ (by decide +kernel),?_⟩;walk_at "w";refine ⟨Nat.zero_le _,fun e2 he2=>?_⟩;have S13:=S12.new he2 (.lst []);have s13:j7 H13 (upd H13 e2 (.lst [])):=j7.upd_new he2;have nm:=lr.notOwn he2;have eH:H e2=none:=(S13.is (e2,.lst []) List.mem_cons_self).2;have e13:(upd H13 e2 (.lst [])) e2=some (.lst (([]:List Int).map V.int)):=j1;have l13:=lr.same s13;generalize upd H13 e2 (.lst [])=H14 at S13 s13 e13 l13 ⊢;walk_at "w";refine ⟨p,d,_,[],[],[[]],[],0,e2,[],rfl,l13,e13,fun z=>nm (jx z),by omega,hd6,by simp,by simp,rfl,fun H' L' lr' st=>?_⟩;have hn:∀ b,b∈yq p ⟨bk,nb,ha,ta,li,ro,[],[em],[],[]⟩→b≠p→H b=none:=fun b hb hbp=>by
   have hb:b=p∨b=bk∨b=nb∨b=ha∨b=ta∨b=li∨b=ro∨b=em:=by simpa [yq,qH,v8] using hb
   rcases hb with hb | hb | hb | hb | hb | hb | hb | hb
   ·exact absurd hb hbp
   ·rw [hb];exact S12.none (by simp)
   ·rw [hb];exact S12.none (by simp)
   ·rw [hb];exact S12.none (by simp)
   ·rw [hb];exact S12.none (by simp)
   ·rw [hb];exact S12.none (by simp)
   ·rw [hb];exact S12.none (by simp)
   ·rw [hb];exact S12.none (by simp)
  walk_at "w";refine q H' L' lr' (fun b o e hb=>?_) (fun b hb hbp=>?_)
  ·refine st.kp b o (fun z=>?_) (S13.kp b o e hb);rw [hn b (jx z) hb] at e;cases e
  ·rcases st.own b hb with h | h | h
   ·exact hn b h hbp
   ·rw [h];exact eH
   ·cases hh:H b with
    | none=>rfl
    | some o=>rw [S13.kp b o hh hbp] at h;cases h
theorem VE:jM ["self","line","row","word","lit"] ["self","line","row"] (j2 Js):=⟨rfl,rfl,rfl,by decide +kernel,rfl,by decide +kernel,by decide +kernel⟩
theorem j16 (T:Txt K mg t):jd K t.fd_zV ["self","line","row"] []:=T.F_zV.binds fun _ _ _ _ _ _ us hl=>by obtain ⟨_,_,_,rfl⟩:=zX hl;rfl
def JM (kn:Bk) (tails:List (List Int)) (l:List Int) (r:List Bool):Prop:=r.length≤tails.length∧r.map some=(tails.take r.length).map fun t=>saidO kn (l++t)
def wF (K:PySem.W.Frag) (C CB:Addr):Sp:=fun vs H Q _=>∃ (p:Addr) (d:Int) (L:LA) (kn:Bk) (heads tails:List (List Int)) (rows:List (List Bool)) (f k:Nat) (la ra:Addr) (l:List Int) (r:List Bool),vs=[.ref p,.ref la,.ref ra]∧jk C CB H p d L kn heads tails rows f ∧
 H la=some (.lst (l.map V.int))∧la∉qH p L∧L.rA[k]?=some ra∧rows[k]?=some r∧JM kn tails l r∧zh heads tails kn∧l.length≤1000 ∧
 (∀ H',yG kn tails l=none→jk C CB H' p d L kn heads tails (rows.set k (jQ kn tails l)) f→qD p L L H H'→Q .non H') ∧
 (∀ H' w r' a,yG kn tails l=some w→JM kn tails l r'→jk C CB H' p d L kn heads tails (rows.set k r') f→qD p L L H H'→H a=none→H' a=some (.lst (w.map V.int))→Q (.ref a) H')
theorem WQ (T:Txt K mg t):qE P w K mg base CX0 1 t.f_zV t.fd_zV ["self","line","row"] (wF K t.C_Learner t.C_Book):=by
 refine T.F_zV.ok VE (fun vs H Q E h=>?_) (fun cdv A outer s H vs Q E hr h=>?_)
 ·obtain ⟨p,d,L,kn,heads,tails,rows,f,k,la,ra,l,r,rfl,_⟩:=h;rfl
 ·obtain ⟨p,d,L,kn,heads,tails,rows,f,k,la,ra,l,r,rfl,lr,hla,nla,hra,hrk,hpre,sm,hll,q1,q2⟩:=h;refine ⟨_,j3 (y9 PassesOwn.never (jX xf (jI (jB K) rfl T.m_len PySem.boot_len (j0 (pv 2) (j4))) (jI (jB K) rfl T.m_len PySem.boot_len (j0 (jJ K (pv 0) rfl) (j4))) (je _))
 (j3 (jH (i:=3) VE.nd rfl (Or.inl rfl) (jq qw (pv 1) (jb (jE K) (jJ K (pv 0) rfl) (jI (jB K) rfl T.m_len PySem.boot_len (j0 (pv 2) (j4))) (fun _ _=>rfl))))
 (j3 (jH (i:=4) VE.nd rfl (Or.inl rfl) (QU hr.units1 (jJ K (jJ K (pv 0) rfl) rfl) (qG (ju K) rfl T.m_tuple boot_tuple (j0 (pv 3) (j4))) ⟨rfl,rfl,rfl,rfl⟩))
 (j3 (jz (jX xb (pv 4) (qf) (je _))
 (j6 (jO (pv 3)))
 (jS))
 (j6 (jZ (qc K PySem.F.plainAttrs_list PySem.F.slot_list_append PySem.F.type_list_append jj (pv 2) (j0 (pv 4) (j4)))))))))
 (j6 (jO (qf))),?_⟩
  walk_at "w";have hrs:rows.set k r=rows:=by
   obtain ⟨h1,h2⟩:=List.getElem?_eq_some_iff.mp hrk;rw [← h2];exact List.set_getElem_self h1
  have hkl:k < rows.length:=(List.getElem?_eq_some_iff.mp hrk).1;refine ⟨fun m σ H'=>∃ r',JM kn tails l r'∧m=tails.length - r'.length∧jk t.C_Learner t.C_Book H' p d L kn heads tails (rows.set k r') f∧qD p L L H H'∧∃ k3 k4,σ=[some (.ref p),some (.ref la),some (.ref ra),k3,k4],⟨_,r,hpre,rfl,by rw [hrs];exact lr,.same (j7.refl _),_,_,rfl⟩,?_⟩
  rintro m σ H1 ⟨r',hp',rfl,l1,st1,k3,k4,rfl⟩
  obtain ⟨dx,fs,ho,hf⟩:=l1.ob;have hra1:H1 ra=some (.lst (r'.map V.bl)):=l1.rww.row k ra r' hra (List.getElem?_set_self hkl);have hla1:H1 la=some (.lst (l.map V.int)):=st1.kp _ _ nla hla;have etl:(L.tA.map V.ref).length=tails.length:=by rw [List.length_map,l1.tlw.len]
  walk_at "w";refine ⟨ra,_,rfl,.inl (SqL.of hra1),?_⟩;walk_at "w";refine xw (a:=0) ?_;walk_at "w";refine ⟨p,_,dx,_,_,rfl,ho,T.cl_Learner,T.na_Learner_tails,hf.tails,?_⟩;walk_at "w";refine ⟨_,_,rfl,.inl (SqL.of l1.tls),?_⟩;rw [etl,List.length_map];walk_at "w";refine yo (fun hc=>?_) (fun hc=>?_)
  ·have hlt:r'.length < tails.length:=by simpa using hc
   have ht:=List.getElem?_eq_getElem hlt;obtain ⟨ta,ta1,ta2,ta3⟩:=l1.tlw.get ht;have htw:=sm.tw _ (List.getElem_mem hlt);generalize tails[r'.length]=tw at ht ta3 htw;refine ⟨fun σ' H'=>∃ r2,r2.length=r'.length+1∧JM kn tails l r2∧jk t.C_Learner t.C_Book H' p d L kn heads tails (rows.set k r2) f∧qD p L L H H'∧∃ k3 k4,σ'=[some (.ref p),some (.ref la),some (.ref ra),k3,k4],fun σ' H' ⟨r2,e,a1,a2,a3,a4⟩=>⟨tails.length - r2.length,by omega,r2,a1,rfl,a2,a3,a4⟩,?_⟩;walk_at "w";refine xw (a:=0) ?_;walk_at "w";refine ⟨p,_,dx,_,_,rfl,ho,T.cl_Learner,T.na_Learner_tails,hf.tails,?_⟩;walk_at "w";refine ⟨ra,_,rfl,.inl (SqL.of hra1),?_⟩;rw [List.length_map];refine ji (SqL.of l1.tls) (jY (j:=r'.length) ta2) ?_;walk_at "w";refine ⟨la,ta,_,_,rfl,rfl,hla1,ta3,Nat.le_of_lt (qj (by rw [List.length_map,List.length_map];omega)),fun wa hwa=>?_⟩;rw [← List.map_append];have s2:j7 H1 (upd H1 wa (.lst ((l++tw).map V.int))):=j7.upd_new hwa;have wa2:(upd H1 wa (.lst ((l++tw).map V.int))) wa=some (.lst ((l++tw).map V.int)):=j1;generalize upd H1 wa (.lst ((l++tw).map V.int))=H2 at s2 wa2 ⊢;have l2:=l1.same s2;obtain ⟨bx,hb⟩:=l2.book.ob;walk_at "w";refine xw (a:=0) ?_;walk_at "w";refine xw (a:=0) ?_;walk_at "w";refine ⟨p,_,dx,_,_,rfl,s2 _ _ ho,T.cl_Learner,T.na_Learner_book,hf.book,?_⟩;refine ⟨_,_,bx,_,_,rfl,hb,T.cl_Book,T.na_Book_noted,vZ _ _,?_⟩;refine ⟨L.nb,rfl,.inr ⟨_,.inl l2.book.noted⟩,?_⟩;walk_at "w";refine ⟨wa,_,rfl,.inl ⟨SqL.of wa2,fun tp htp=>?_⟩⟩;have s3:j7 H2 (upd H2 tp (.tup ((l++tw).map V.int))):=j7.upd_new htp;have tp3:(upd H2 tp (.tup ((l++tw).map V.int))) tp=some (.tup (((l++tw).map (Sum.inl:Int→Key)).map kV)):=by rw [j1,zg]
   generalize upd H2 tp (.tup ((l++tw).map V.int))=H3 at s3 tp3 ⊢;have l3:=l2.same s3;refine ⟨_,ym.t (k:=(l++tw).map Sum.inl) l3.book.noted tp3,?_⟩;rw [yA];have st3:qD p L L H H3:=st1.trans (.same (s2.trans s3));walk_at "w";refine ⟨rfl,?_⟩;walk_at "w";cases hs:saidO kn (l++tw) with
   | none =>
    refine qK (by simp) ?_;walk_at "w";refine q2 _ _ _ wa (UT hp'.2 ht hs) hp' l3 st3 ?_ (s3 _ _ wa2);cases hh:H wa with
    | none=>rfl
    | some o =>
     have:wa∉qH p L:=fun z=>l1.notOwn hwa (jx z);rw [st1.kp _ _ this hh] at hwa;cases hwa
   | some b =>
    refine jU (by simp) ?_;walk_at "w";have hra3:H3 ra=some (.lst (r'.map V.bl)):=s3 _ _ (s2 _ _ hra1);refine ⟨.inl ⟨rfl,_,SqL.of hra3⟩,?_⟩;walk_at "w";refine ⟨ra,_,_,rfl,rfl,hra3,qj (by rw [List.length_map];have:=sm.ts;omega),?_⟩;obtain ⟨m1,m2⟩:=Vo hp'.2 ht hs;obtain ⟨l4,st4⟩:=l3.setR hra (r'++[b]);rw [List.set_set] at l4;rw [List.map_append] at l4 st4;exact ⟨r'++[b],by simp,⟨m1,m2⟩,l4,st3.trans st4,_,_,rfl⟩
  ·have hge:r'.length=tails.length:=by
    have:=hp'.1;have hc':¬ r'.length < tails.length:=by simpa using hc
    omega
   obtain ⟨g1,g2⟩:=Xn hp'.2 hge;walk_at "w";exact q1 _ g1 (by rw [← g2];exact l1) st1
theorem K0:jM ["self","word"] ["self"] (j2 Jj):=⟨rfl,rfl,rfl,by decide +kernel,rfl,by decide +kernel,by decide +kernel⟩
theorem Zr (T:Txt K mg t):jd K t.fd_zG ["self"] []:=T.F_zG.binds fun _ _ _ _ _ _ us hl=>by obtain ⟨_,rfl⟩:=zf hl;rfl
def wY (K:PySem.W.Frag) (C CB:Addr):Sp:=fun vs H Q _=>∃ (p:Addr) (d:Int) (L:LA) (kn:Bk) (heads tails:List (List Int)) (rows:List (List Bool)) (f:Nat),vs=[.ref p]∧jk C CB H p d L kn heads tails rows f∧jv d kn heads tails rows f∧zh heads tails kn∧(∀ l∈jC d heads,l.length≤1000) ∧
 (jt d kn heads tails=none→∀ H' rows',jk C CB H' p d L kn heads tails rows' rows'.length→jv d kn heads tails rows' rows'.length→qD p L L H H'→Q .non H') ∧
 (∀ w,jt d kn heads tails=some w→∀ H' rows' f' a,jk C CB H' p d L kn heads tails rows' f'→jv d kn heads tails rows' f'→qD p L L H H'→H a=none→H' a=some (.lst (w.map V.int))→Q (.ref a) H')
theorem Qh (T:Txt K mg t):qE P w K mg base CX0 2 t.f_zG t.fd_zG ["self"] (wY K t.C_Learner t.C_Book):=by
 refine T.F_zG.ok K0 (fun vs H Q E h=>?_) (fun cdv A outer s H vs Q E hr h=>?_)
 ·obtain ⟨p,d,L,kn,heads,tails,rows,f,rfl,_⟩:=h;rfl
 ·obtain ⟨p,d,L,kn,heads,tails,rows,f,rfl,lr,R,sm,hll,q1,q2⟩:=h;refine ⟨_,j3 (y9 PassesOwn.never (jX xf (jJ K (pv 0) rfl) (jI (jB K) rfl T.m_len PySem.boot_len (j0 (jJ K (pv 0) rfl) (j4))) (je _))
 (j3 (jH (i:=1) K0.nd rfl (Or.inl rfl) (qY (pv 0) T.cl_Learner T.me_zV (WQ T) (hr.mono (by decide)) (j16 T) .nil jP (j0 (jb (jE K) (jJ K (pv 0) rfl) (jJ K (pv 0) rfl) (fun _ _=>rfl)) (j0 (jb (jE K) (jJ K (pv 0) rfl) (jJ K (pv 0) rfl) (fun _ _=>rfl)) (j4)))))
 (j3 (jz (jX yc (pv 1) (qf) (je _))
 (j6 (jO (pv 1)))
 (jS))
 (j6 (Y3 K (pv 0) (jG) U7)))))
 (j6 (jO (qf))),?_⟩
  walk_at "w";refine ⟨fun m σ H'=>∃ rows' f',m=rows'.length - f'∧jk t.C_Learner t.C_Book H' p d L kn heads tails rows' f'∧jv d kn heads tails rows' f'∧qD p L L H H'∧∃ k1,σ=[some (.ref p),k1],⟨_,rows,f,rfl,lr,R,.same (j7.refl _),_,rfl⟩,?_⟩
  rintro m σ H1 ⟨rows',f',rfl,l1,R1,st1,k1,rfl⟩
  obtain ⟨dx,fs,ho,hf⟩:=l1.ob;have ell:(L.lA.map V.ref).length=rows'.length:=by rw [List.length_map,l1.lnw.len,R1.len]
  walk_at "w";refine ⟨_,rfl,p,_,dx,_,_,rfl,ho,T.cl_Learner,T.na_Learner_filled,hf.filled,?_⟩;walk_at "w";refine ⟨_,rfl,p,_,dx,_,_,rfl,ho,T.cl_Learner,T.na_Learner_lines,hf.lines,?_⟩;walk_at "w";refine ⟨_,_,rfl,.inl (SqL.of l1.lns),?_⟩;rw [ell];walk_at "w";refine yo (fun hc=>?_) (fun hc=>?_)
  ·have hlt:f' < rows'.length:=by simpa using hc
   have hltl:f' < (jC d heads).length:=by rw [← R1.len];exact hlt
   have hr:=List.getElem?_eq_getElem hlt;have hl:=List.getElem?_eq_getElem hltl;have hlw:=hll _ (List.getElem_mem hltl);generalize rows'[f']=r at hr;generalize (jC d heads)[f']=l at hl hlw;obtain ⟨la,la1,la2,la3⟩:=l1.lnw.get hl;obtain ⟨ra,ra1,ra2,ra3⟩:=l1.rww.get hr;refine ⟨fun σ' H'=>∃ r2,jv d kn heads tails r2 (f'+1)∧jk t.C_Learner t.C_Book H' p d L kn heads tails r2 (f'+1)∧r2.length=rows'.length∧qD p L L H H'∧∃ k1,σ'=[some (.ref p),k1],fun σ' H' ⟨r2,a1,a2,a3,a4,a5⟩=>⟨r2.length - (f'+1),by omega,r2,f'+1,rfl,a2,a1,a4,a5⟩,?_⟩;walk_at "w";refine ⟨p,dx,_,rfl,ho,hf.no _ (by decide +kernel),?_⟩;walk_at "w";refine ⟨_,rfl,p,_,dx,_,_,rfl,ho,T.cl_Learner,T.na_Learner_lines,hf.lines,?_⟩;walk_at "w";refine ⟨_,rfl,p,_,dx,_,_,rfl,ho,T.cl_Learner,T.na_Learner_filled,hf.filled,?_⟩;refine ji (SqL.of l1.lns) (jY (j:=f') la2) ?_;walk_at "w";refine ⟨_,rfl,p,_,dx,_,_,rfl,ho,T.cl_Learner,T.na_Learner_rows,hf.rows,?_⟩;walk_at "w";refine ⟨_,rfl,p,_,dx,_,_,rfl,ho,T.cl_Learner,T.na_Learner_filled,hf.filled,?_⟩;refine ji (SqL.of l1.rws) (jY (j:=f') ra2) ?_;walk_at "w";refine ⟨p,d,L,kn,heads,tails,rows',f',f',la,ra,l,r,rfl,l1,la3,l1.sep la (vq (List.mem_of_getElem? la1)),ra1,hr,R1.row f' r l hr hl,sm,hlw,fun H2 hg l2 st2=>?_,fun H2 w r2 wa hg hp2 l2 st2 hwn hwa=>?_⟩
   ·walk_at "w";refine ⟨rfl,?_⟩;walk_at "w";refine jU rfl ?_;obtain ⟨dx2,fs2,ho2,hf2⟩:=l2.ob;walk_at "w";refine ⟨p,_,dx2,_,_,rfl,ho2,T.cl_Learner,T.na_Learner_filled,hf2.filled,?_⟩;walk_at "w";refine ⟨_,_,rfl,rfl,dx2,fs2,ho2,by have:=hf2.len;omega,?_⟩;have R2:=R1.set (r:=jQ kn tails l) hl (by unfold jQ;rw [List.length_map];exact Nat.le_refl _) (by
     have:=zB.mp hg;unfold jQ;rw [List.length_map,List.take_length,List.map_map];refine List.map_congr_left fun t ht=>?_;obtain ⟨b,hb⟩:=this t ht;show some ((saidO kn (l++t)).getD false)=_;rw [hb];rfl) (by intro z;omega)
    have R3:=R2.succ (by rw [List.length_set];exact hlt) (fun q hq=>by
     rw [List.getElem?_set_self hlt] at hq;cases hq;unfold jQ;rw [List.length_map])
    obtain ⟨l3,st3⟩:=l2.setF (dx:=dx2) (hf2.setF (f'+1));refine ⟨_,R3,?_,by rw [List.length_set],st1.trans (st2.trans ?_),_,rfl⟩
    ·exact l3
    ·exact st3
   ·walk_at "w";refine ⟨rfl,?_⟩;walk_at "w";refine qK rfl ?_;walk_at "w";have hwH:H wa=none:=by
     cases hh:H wa with
     | none=>rfl
     | some o=>rw [st1.kp wa o (fun z=>l1.notOwn hwn (jx z)) hh] at hwn;cases hwn
    exact q2 w (R1.next hl hg) H2 _ f' wa l2 (R1.set hl hp2.1 hp2.2 (by intro z;omega)) (st1.trans st2) hwH hwa
  ·have hge:f'=rows'.length:=by
    have:=R1.fle;have hc':¬ f' < rows'.length:=by simpa using hc
    omega
   subst hge;walk_at "w";exact q1 R1.all.1 H1 rows' l1 R1 st1
theorem Yu:jM ["self","numbers","number","row"] ["self"] (j2 QD):=⟨rfl,rfl,rfl,by decide +kernel,rfl,by decide +kernel,by decide +kernel⟩
theorem wN (T:Txt K mg t):jd K t.fd_zB ["self"] []:=T.F_zB.binds fun _ _ _ _ _ _ us hl=>by obtain ⟨_,rfl⟩:=zf hl;rfl
def xC:List (List Bool)→Nat→List (List Bool×V)
 | [],_=>[]
 | r :: rs,i=>(r,.int (i:Int)) :: xC rs (i+1)
theorem Qv:∀ (rs:List (List Bool)) (i:Nat),(xC rs i).length=rs.length
 | [],_=>rfl
 | r :: rs,i=>by unfold xC;rw [List.length_cons,List.length_cons,Qv]
theorem kz:∀ (rs:List (List Bool)) (r:List Bool) (i:Nat),xC (rs++[r]) i=xC rs i++[(r,.int ((i+rs.length:Nat):Int))]
 | [],r,i=>rfl
 | a :: rs,r,i=>by
  show (a,V.int (i:Int)) :: xC (rs++[r]) (i+1)=_;rw [kz rs r (i+1)];show _=(a,V.int (i:Int)) :: (xC rs (i+1)++_);rw [List.length_cons,show i+1+rs.length=i+(rs.length+1) by omega]
theorem vg (r:List Bool):∀ (rs:List (List Bool)) (i:Nat),yK (xC rs i) r=if r∈rs then some (.int ((i+rs.findIdx (fun x=>decide (x=r)):Nat):Int)) else none
 | [],i=>rfl
 | a :: rs,i=>by
  show yK ((a,V.int (i:Int)) :: xC rs (i+1)) r=_
  by_cases e:a=r
  ·rw [yU (p:=(a,V.int (i:Int))) e,List.findIdx_cons];simp [e]
  ·rw [yM (p:=(a,V.int (i:Int))) e,vg r rs (i+1),List.findIdx_cons];have h:¬ r=a:=fun z=>e z.symm;simp only [List.mem_cons,h,false_or,decide_eq_false e,cond_false]
   split
   ·congr 3;omega
   ·rfl
theorem kf (kn:Bk) (heads tails:List (List Int)) (l:List Int):yK (xC (jN kn heads tails) 0) (jQ kn tails l)=if jQ kn tails l∈jN kn heads tails then some (.int (ixR kn heads tails l)) else none:=by
 rw [vg,Nat.zero_add];rfl
def j0V (P:Program) (w:World) (C CB:Addr):Sp:=fun vs H Q _=>∃ (p:Addr) (d:Int) (L:LA) (kn:Bk) (heads tails:List (List Int)) (rows:List (List Bool)) (f:Nat),vs=[.ref p]∧jk C CB H p d L kn heads tails rows f∧rows=(jC d heads).map (jQ kn tails)∧LI d kn heads tails∧heads.length≤400∧1≤d∧d≤6 ∧
 ∀ H' nb,j7 H H'→H nb=none→DG (Qg P w) H' nb (xC (jN kn heads tails) 0)→Q (.ref nb) H'
theorem Xt (T:Txt K mg t):qE P w K mg base CX0 1 t.f_zB t.fd_zB ["self"] (j0V P w t.C_Learner t.C_Book):=by
 refine T.F_zB.ok Yu (fun vs H Q E h=>?_) (fun cdv A outer s H vs Q E hr h=>?_)
 ·obtain ⟨p,d,L,kn,heads,tails,rows,f,rfl,_⟩:=h;rfl
 ·obtain ⟨p,d,L,kn,heads,tails,rows,f,rfl,lr,hrows,I,hh4,hd1,hd6,q⟩:=h;obtain ⟨dx,fs,ho,hf⟩:=lr.ob;refine ⟨_,j3 (jH (i:=1) Yu.nd rfl (Or.inl rfl) (Zu (Qg P w)))
 (j3 (qC PassesOwn.never rfl (kC K rfl T.m_enumerate (j0 (ZU K (jJ K (pv 0) rfl) (jq y8 (jJ K (pv 0) rfl) (jG))) (j4))) (zq K (n:=2) rfl (qZ (jL (i:=2) Yu.nd rfl (Or.inl rfl)) (qZ (jL (i:=3) Yu.nd rfl (Or.inl rfl)) (zo))))
 (j6 (Xh (Qg P w) hr.u16 (pv 1) (qG (ju K) rfl T.m_tuple boot_tuple (j0 (pv 3) (j4))) (pv 2) rfl)))
 (j6 (jO (pv 1)))),?_⟩
  walk_at "w";intro nb hnb dg0;have s1:j7 H (upd H nb (.ext (zt (Qg P w) nb []))):=j7.upd_new hnb;generalize upd H nb (.ext (zt (Qg P w) nb []))=H1 at s1 dg0 ⊢;have l1:=lr.same s1;walk_at "w";refine ⟨_,rfl,p,_,dx,_,_,rfl,s1 _ _ ho,T.cl_Learner,T.na_Learner_rows,hf.rows,?_⟩;walk_at "w";refine ⟨_,rfl,p,_,dx,_,_,rfl,s1 _ _ ho,T.cl_Learner,T.na_Learner_doors,hf.doors,?_⟩;walk_at "w";have hlen:(L.rA.map V.ref).length=heads.length * (d.toNat+1):=by rw [List.length_map,lr.rww.len,hrows,List.length_map,yI]
  refine ⟨_,_,d.toNat+1,rfl,by congr 1;omega,by omega,SqL.of l1.rws,fun sl hsl=>?_⟩
  haveI:Inhabited V:=⟨.non⟩
  rw [ZF (m:=heads.length) (by omega) hlen];have hrw:∀ (i:Nat) (h:List Int),heads[i]?=some h→∃ a,(L.rA.map V.ref).getD ((d.toNat+1) * i) default=.ref a∧H1 a=some (.lst ((jQ kn tails h).map V.bl)):=fun i h hi=>by
   have e1:rows[i * (d.toNat+1)]?=some (jQ kn tails h):=by rw [hrows,List.getElem?_map,xS hi];rfl
   obtain ⟨a,_,a2,a3⟩:=l1.rww.get e1;exact ⟨a,by rw [Nat.mul_comm,List.getD_eq_getElem?_getD,a2];rfl,a3⟩
  generalize hxs:(List.range heads.length).map (fun k=>(L.rA.map V.ref).getD ((d.toNat+1) * k) default)=xs;have s2:j7 H1 (upd H1 sl (.lst xs)):=j7.upd_new hsl;have sl2:(upd H1 sl (.lst xs)) sl=some (.lst xs):=j1;have nsn:sl≠nb:=by
   obtain ⟨ys,e,_⟩:=dg0;exact Ne.symm (jA e hsl)
  have dg2:=dg0.same s2;have slH:H sl=none:=s1.free hsl;generalize upd H1 sl (.lst xs)=H2 at s2 sl2 dg2 ⊢;have hxl:xs.length=heads.length:=by rw [← hxs];simp
  walk_at "w";refine ⟨sl,rfl,⟨_,SqL.of sl2⟩,?_⟩;refine xQ (xs:=xs) (fun i σ H'=>j7 H H'∧H' sl=some (.lst xs)∧DG (Qg P w) H' nb (xC ((jN kn heads tails).take i) 0)∧∃ k2 k3,σ=[some (.ref p),some (.ref nb),k2,k3]) ⟨s1.trans s2,sl2,dg2,_,_,rfl⟩ (fun i σ H' _ pp=>SqL.of pp.2.1) (fun i x σ H3 tp hx pp htp=>?_) (fun σ H3 pp=>?_)
  ·obtain ⟨s3,sl3,dg3,k2,k3,rfl⟩:=pp;have hi:i < heads.length:=by rw [← hxl];exact (List.getElem?_eq_some_iff.mp hx).1
   have hhi:=List.getElem?_eq_getElem hi;obtain ⟨a,ha1,ha2⟩:=hrw i _ hhi;have ex:x=.ref a:=by
    rw [← hxs,List.getElem?_map,List.getElem?_range hi] at hx;rw [← ha1];exact (Option.some.inj hx).symm
   subst ex;have haH:H a=some (.lst ((jQ kn tails heads[i]).map V.bl)):=by
    have e1:rows[i * (d.toNat+1)]?=some (jQ kn tails heads[i]):=by rw [hrows,List.getElem?_map,xS hhi];rfl
    obtain ⟨a',_,a2,a3⟩:=lr.rww.get e1;have:a=a':=by
     rw [Nat.mul_comm,List.getD_eq_getElem?_getD,a2] at ha1;cases ha1;rfl
    rw [this];exact a3
   have hrow:(jN kn heads tails)[i]?=some (jQ kn tails heads[i]):=by unfold jN;rw [List.getElem?_map,hhi];rfl
   have hrl:(jN kn heads tails).length=heads.length:=by simp [jN]
   have hne:jQ kn tails heads[i]∉(jN kn heads tails).take i:=fun z=>by
    obtain ⟨j,hj⟩:=List.getElem?_of_mem z;have hji:j < i:=by
     have:=(List.getElem?_eq_some_iff.mp hj).1;rw [List.length_take] at this;omega
    rw [List.getElem?_take_of_lt hji] at hj;have hjl:j < heads.length:=by omega
    have e:(jN kn heads tails)[j]?=some (jQ kn tails heads[j]):=by unfold jN;rw [List.getElem?_map,List.getElem?_eq_getElem hjl];rfl
    rw [e] at hj;exact I.rne hji (List.getElem?_eq_getElem hjl) hhi (Option.some.inj hj)
   generalize jQ kn tails heads[i]=r at haH hrow hne;have ntp:∀ b o,H3 b=some o→(upd H3 tp (.tup [.int (i:Int),.ref a])) b=some o:=fun b o e=>j7.upd_new htp b o e;refine ⟨tp,_,rfl,SqT.of j1,rfl,_,_,rfl,?_⟩;have s4:j7 H3 (upd H3 tp (.tup [.int (i:Int),.ref a])):=j7.upd_new htp;generalize upd H3 tp (.tup [.int (i:Int),.ref a])=H4 at s4 ⊢;walk_at "w";refine ⟨_,_,rfl,?_⟩;walk_at "w";refine ⟨rfl,?_⟩;walk_at "w";refine ⟨a,_,rfl,.inl ⟨SqL.of (s4 _ _ (s3 _ _ haH)),fun kt hkt=>?_⟩⟩;have s5:j7 H4 (upd H4 kt (.tup (r.map V.bl))):=j7.upd_new hkt;have kt5:(upd H4 kt (.tup (r.map V.bl))) kt=some (.tup (r.map V.bl)):=j1;generalize upd H4 kt (.tup (r.map V.bl))=H5 at s5 kt5 ⊢;refine ⟨nb,kt,r,_,rfl,rfl,kt5,dg3.same (s4.trans s5),qj (by rw [Qv,List.length_take];omega),fun H6 k6 dg6=>?_⟩;rw [zI _ (by rw [vg,if_neg hne])] at dg6;have nnb:∀ b o,H b=some o→b≠nb:=fun b o e=>jA e hnb;refine ⟨fun b o e=>by rw [k6 b (nnb b o e)];exact s5 _ _ (s4 _ _ (s3 _ _ e)),by rw [k6 sl nsn];exact s5 _ _ (s4 _ _ sl3),?_,_,_,rfl⟩;rw [jn hrow,kz,List.length_take,hrl,Nat.min_eq_left (by omega),Nat.zero_add];exact dg6
  ·obtain ⟨s3,sl3,dg3,k2,k3,rfl⟩:=pp;rw [hxl,List.take_of_length_le (by simp [jN])] at dg3;walk_at "w";exact q H3 nb s3 hnb dg3
theorem Yq:jM ["self","numbers","line","row"] ["self"] (j2 JW):=⟨rfl,rfl,rfl,by decide +kernel,rfl,by decide +kernel,by decide +kernel⟩
theorem wX (T:Txt K mg t):jd K t.fd_zC ["self"] []:=T.F_zC.binds fun _ _ _ _ _ _ us hl=>by obtain ⟨_,rfl⟩:=zf hl;rfl
def j0C (K:PySem.W.Frag) (C CB:Addr):Sp:=fun vs H Q _=>∃ (p:Addr) (d:Int) (L:LA) (kn:Bk) (heads tails:List (List Int)) (rows:List (List Bool)) (f:Nat),vs=[.ref p]∧jk C CB H p d L kn heads tails rows f∧jv d kn heads tails rows f∧zh heads tails kn∧LI d kn heads tails∧1≤d∧d≤6 ∧
 ((jt d kn heads tails≠none∨qB d kn heads tails=none)→∀ H' rows' f',jk C CB H' p d L kn heads tails rows' f'→jv d kn heads tails rows' f'→qD p L L H H'→Q .non H') ∧
 (∀ e,jt d kn heads tails=none→qB d kn heads tails=some e→∀ H' rows' f' a,jk C CB H' p d L kn heads tails rows' f'→jv d kn heads tails rows' f'→qD p L L H H'→a∈L.lA→H' a=some (.lst (e.map V.int))→Q (.ref a) H')
theorem Kb (T:Txt K mg t):qE P w K mg base CX0 3 t.f_zC t.fd_zC ["self"] (j0C K t.C_Learner t.C_Book):=by
 refine T.F_zC.ok Yq (fun vs H Q E h=>?_) (fun cdv A outer s H vs Q E hr h=>?_)
 ·obtain ⟨p,d,L,kn,heads,tails,rows,f,rfl,_⟩:=h;rfl
 ·obtain ⟨p,d,L,kn,heads,tails,rows,f,rfl,lr,R,sm,I,hd1,hd6,q1,q2⟩:=h;obtain ⟨dx,fs,ho,hf⟩:=lr.ob;refine ⟨_,j3 (jz (jX yc (qP (pv 0) T.cl_Learner T.me_zG (Qh T) (hr.mono (by decide)) (Zr T) .nil jP) (qf) (je _))
 (j6 (jO (qf)))
 (jS))
 (j3 (jH (i:=1) Yq.nd rfl (Or.inl rfl) (qP (pv 0) T.cl_Learner T.me_zB (Xt T) (hr.mono (by decide)) (wN T) .nil jP))
 (j3 (qC PassesOwn.never rfl (UC K rfl T.m_zip (j0 (jJ K (pv 0) rfl) (j0 (jJ K (pv 0) rfl) (j4)))) (zq K (n:=2) rfl (qZ (jL (i:=2) Yq.nd rfl (Or.inl rfl)) (qZ (jL (i:=3) Yq.nd rfl (Or.inl rfl)) (zo))))
 (j6 (jz (v4 (ZI (Qg P w) hr.u16 (qG (ju K) rfl T.m_tuple boot_tuple (j0 (pv 3) (j4))) (pv 1)))
 (j6 (jO (pv 2)))
 (jS))))
 (j6 (jO (qf))))),?_⟩
  walk_at "w";refine ⟨p,dx,_,rfl,ho,hf.no _ (by decide +kernel),?_⟩;refine ⟨p,d,L,kn,heads,tails,rows,f,rfl,lr,R,sm,fun l hl=>by have:=(I.lok hl).2;have:=sm.hs;omega,fun hq H1 rows1 l1 R1 st1=>?_,fun w hq H1 rows1 f1 a l1 R1 st1 _ _=>?_⟩
  ·walk_at "w";refine ⟨rfl,?_⟩;walk_at "w";refine jU rfl ?_;obtain ⟨dx1,fs1,ho1,hf1⟩:=l1.ob;have hrows:=R1.all.2;walk_at "w";refine ⟨p,dx1,_,rfl,ho1,hf1.no _ (by decide +kernel),?_⟩;refine ⟨p,d,L,kn,heads,tails,rows1,_,rfl,l1,hrows,I,sm.hs,hd1,hd6,fun H2 nb s2 hnb dg2=>?_⟩;have l2:=l1.same s2;have st2:qD p L L H H2:=st1.trans (.same s2);walk_at "w";refine ⟨_,rfl,p,_,dx1,_,_,rfl,s2 _ _ ho1,T.cl_Learner,T.na_Learner_lines,hf1.lines,?_⟩;walk_at "w";refine ⟨_,rfl,p,_,dx1,_,_,rfl,s2 _ _ ho1,T.cl_Learner,T.na_Learner_rows,hf1.rows,?_⟩;walk_at "w";refine ⟨_,_,rfl,⟨_,SqL.of l2.lns⟩,⟨_,SqL.of l2.rws⟩,?_⟩;have hLl:L.lA.length=(jC d heads).length:=l2.lnw.len;have hRl:L.rA.length=(jC d heads).length:=by rw [l2.rww.len,R1.len]
   refine XR (xs:=L.lA.map V.ref) (ys:=L.rA.map V.ref) (fun i σ H'=>j7 H2 H'∧(∀ l∈(jC d heads).take i,jQ kn tails l∈jN kn heads tails)∧∃ k2 k3,σ=[some (.ref p),some (.ref nb),k2,k3]) ⟨j7.refl _,by simp,_,_,rfl⟩ (by rw [List.length_map,List.length_map,hLl,hRl]) (fun i σ H' _ pp=>⟨SqL.of (pp.1 _ _ l2.lns),SqL.of (pp.1 _ _ l2.rws)⟩) (fun i x y σ H3 tp hx hy pp ht=>?_) (fun σ H3 pp=>?_)
   ·obtain ⟨s3,hall,k2,k3,rfl⟩:=pp;have hx0:=jc hx;have hy0:=jc hy;clear hx hy;obtain ⟨la,rfl,hla⟩:=hx0;obtain ⟨ra,rfl,hra⟩:=hy0;have hi:i < (jC d heads).length:=by rw [← hLl];exact (List.getElem?_eq_some_iff.mp hla).1
    have hl:=List.getElem?_eq_getElem hi;have hmem:=List.getElem_mem hi;have hr:rows1[i]?=some (jQ kn tails (jC d heads)[i]):=by rw [hrows,List.getElem?_map,hl];rfl
    generalize (jC d heads)[i]=l at hl hr hmem;have la2:=l2.lnw.row i la l hla hl;have ra2:=l2.rww.row i ra _ hra hr;have s4:j7 H3 (upd H3 tp (.tup [.ref la,.ref ra])):=j7.upd_new ht;refine ⟨tp,_,rfl,SqT.of j1,rfl,_,_,rfl,?_⟩;generalize upd H3 tp (.tup [.ref la,.ref ra])=H4 at s4 ⊢;have s24:=s3.trans s4;walk_at "w";refine ⟨_,_,rfl,?_⟩;walk_at "w";refine ⟨rfl,?_⟩;walk_at "w";refine ⟨ra,_,rfl,.inl ⟨SqL.of (s24 _ _ ra2),fun kt hkt=>?_⟩⟩;have s5:j7 H4 (upd H4 kt (.tup ((jQ kn tails l).map V.bl))):=j7.upd_new hkt;have kt5:(upd H4 kt (.tup ((jQ kn tails l).map V.bl))) kt=some (.tup ((jQ kn tails l).map V.bl)):=j1;generalize upd H4 kt (.tup ((jQ kn tails l).map V.bl))=H5 at s5 kt5 ⊢;have s25:=s24.trans s5;walk_at "w";refine ⟨nb,kt,jQ kn tails l,_,rfl,rfl,kt5,dg2.same s25,?_⟩;rw [kf]
    walk_at "w";by_cases hin:jQ kn tails l∈jN kn heads tails
    ·rw [if_pos hin];refine jU rfl ?_;walk_at "w";refine ⟨s25,fun u hu=>?_,_,_,rfl⟩;rw [jn hl] at hu;rcases List.mem_append.mp hu with hu | hu
     ·exact hall u hu
     ·rw [List.mem_singleton.mp hu];exact hin
    ·rw [if_neg hin];refine qK rfl ?_;walk_at "w";have hloose:qB d kn heads tails=some l:=by
      unfold qB;have e:jC d heads=(jC d heads).take i++l :: (jC d heads).drop (i+1):=by
       conv=>lhs;rw [← List.take_append_drop i (jC d heads)]
       rw [List.drop_eq_getElem_cons hi];congr 2;rw [List.getElem?_eq_getElem hi] at hl;exact Option.some.inj hl
      have h0:((jC d heads).take i).find? (fun l=>!decide (jQ kn tails l∈jN kn heads tails))=none:=by
       rw [List.find?_eq_none];intro u hu;simpa using hall u hu
      rw [e,List.find?_append,h0,List.find?_cons_of_pos (by simpa using hin)];rfl
     exact q2 l hq hloose H5 rows1 _ la (l2.same s25) R1 (st2.trans (.same s25)) (List.mem_of_getElem? hla) (s25 _ _ la2)
   ·obtain ⟨s3,hall,k2,k3,rfl⟩:=pp;rw [List.length_map,hLl,List.take_length] at hall;walk_at "w";exact q1 (.inr (zN.mpr hall)) H3 rows1 _ (l2.same s3) R1 (st2.trans (.same s3))
  ·walk_at "w";refine ⟨rfl,?_⟩;walk_at "w";refine qK rfl ?_;walk_at "w";exact q1 (.inl (by rw [hq];intro z;cases z)) H1 rows1 f1 l1 R1 st1
theorem VH:jM ["self","edge"] ["self"] (j2 JI):=⟨rfl,rfl,rfl,by decide +kernel,rfl,by decide +kernel,by decide +kernel⟩
theorem j0I (T:Txt K mg t):jd K t.fd_zA ["self"] []:=T.F_zA.binds fun _ _ _ _ _ _ us hl=>by obtain ⟨_,rfl⟩:=zf hl;rfl
def w9 (K:PySem.W.Frag) (C CB:Addr):Sp:=fun vs H Q _=>∃ (p:Addr) (d:Int) (L:LA) (kn:Bk) (heads tails:List (List Int)) (rows:List (List Bool)) (f:Nat),vs=[.ref p]∧jk C CB H p d L kn heads tails rows f∧jv d kn heads tails rows f∧zh heads tails kn∧LI d kn heads tails∧1≤d∧d≤6 ∧
 (∀ hs,LI d kn hs tails→hs.length≤400) ∧
 (∀ H' L' rows' f',jk C CB H' p d L' kn (zQ d kn tails heads) tails rows' f'→jv d kn (zQ d kn tails heads) tails rows' f'→LI d kn (zQ d kn tails heads) tails→(jt d kn (zQ d kn tails heads) tails≠none∨qB d kn (zQ d kn tails heads) tails=none)→qD p L L' H H'→Q .non H')
structure GrSt (C CB:Addr) (H H1:Hp) (p:Addr) (d:Int) (L:LA) (kn:Bk) (heads tails:List (List Int)) (n:Nat) (L1:LA) (hs:List (List Int)) (rows1:List (List Bool)) (f1:Nat):Prop where
 g:zQ d kn tails heads=ya d kn tails n hs
 n4:401≤n+hs.length
 I:LI d kn hs tails
 l:jk C CB H1 p d L1 kn hs tails rows1 f1
 R:jv d kn hs tails rows1 f1
 st:qD p L L1 H H1
def Yb (C CB:Addr) (H:Hp) (p:Addr) (d:Int) (L:LA) (kn:Bk) (heads tails:List (List Int)) (v:V) (H1:Hp):Prop:=v=.non∧∃ n L1 hs rows1 f1,GrSt C CB H H1 p d L kn heads tails n L1 hs rows1 f1∧(jt d kn hs tails≠none∨qB d kn hs tails=none)
def QF (C CB:Addr) (H:Hp) (p:Addr) (d:Int) (L:LA) (kn:Bk) (heads tails:List (List Int)) (m:Nat) (v:V) (H1:Hp):Prop:=∃ a e n L1 hs rows1 f1,GrSt C CB H H1 p d L kn heads tails n L1 hs rows1 f1∧v=.ref a∧m=401 - hs.length∧a∈L1.lA∧H1 a=some (.lst (e.map V.int))∧jt d kn hs tails=none∧qB d kn hs tails=some e
theorem Xv (T:Txt K mg t):qE P w K mg base CX0 4 t.f_zA t.fd_zA ["self"] (w9 K t.C_Learner t.C_Book):=by
 refine T.F_zA.ok VH (fun vs H Q E h=>?_) (fun cdv A outer s H vs Q E hr h=>?_)
 ·obtain ⟨p,d,L,kn,heads,tails,rows,f,rfl,_⟩:=h;rfl
 ·obtain ⟨p,d,L,kn,heads,tails,rows,f,rfl,lr,R,sm,I,hd1,hd6,bnd,q⟩:=h;obtain ⟨dx,fs,ho,hf⟩:=lr.ob;have smh:∀ hs,LI d kn hs tails→zh hs tails kn:=fun hs Ih=>⟨bnd hs Ih,sm.ts,sm.tw,sm.ks⟩;have h0:1≤heads.length:=List.length_pos_of_mem I.mem0;refine ⟨_,j3 (qV (jH (i:=1) VH.nd rfl (Or.inl rfl) (qP (pv 0) T.cl_Learner T.me_zC (Kb T) (hr.mono (by decide)) (wX T) .nil jP)))
 (j6 (y9 PassesOwn.never (jX yc (pv 1) (qf) (je _))
 (j3 (jZ (qY (pv 0) T.cl_Learner T.me_zF (K5 T) (hr.mono (by decide)) (j01 T) .nil jP (j0 (pv 1) (j4))))
 (j6 (qV (jH (i:=1) VH.nd rfl (Or.inl rfl) (qP (pv 0) T.cl_Learner T.me_zC (Kb T) (hr.mono (by decide)) (wX T) .nil jP))))))),?_⟩
  walk_at "w";refine qp (fun σ' H1=>∃ v,σ'=[some (.ref p),some v]∧(Yb t.C_Learner t.C_Book H p d L kn heads tails v H1∨∃ m,QF t.C_Learner t.C_Book H p d L kn heads tails m v H1)) ?_ ?_
  ·walk_at "w";refine ⟨p,dx,_,rfl,ho,hf.no _ (by decide +kernel),?_⟩;refine ⟨p,d,L,kn,heads,tails,rows,f,rfl,lr,R,sm,I,hd1,hd6,fun hc H1 rows1 f1 l1 R1 st1=>?_,fun e hq hlo H1 rows1 f1 a l1 R1 st1 hal hae=>?_⟩
   ·walk_at "w";exact ⟨.non,rfl,.inl ⟨rfl,400,L,heads,rows1,f1,⟨rfl,by omega,I,l1,R1,st1⟩,hc⟩⟩
   ·walk_at "w";exact ⟨.ref a,rfl,.inr ⟨_,a,e,400,L,heads,rows1,f1,⟨rfl,by omega,I,l1,R1,st1⟩,rfl,rfl,hal,hae,hq,hlo⟩⟩
  rintro σ' H1 ⟨v,rfl,hv⟩
  walk_at "w";refine ⟨fun m σ H1=>∃ v,σ=[some (.ref p),some v]∧((m=0∧Yb t.C_Learner t.C_Book H p d L kn heads tails v H1)∨QF t.C_Learner t.C_Book H p d L kn heads tails m v H1),?_,?_⟩
  ·rcases hv with hv | ⟨m,hv⟩
   ·exact ⟨0,v,rfl,.inl ⟨rfl,hv⟩⟩
   ·exact ⟨m,v,rfl,.inr hv⟩
  clear hv
  rintro m σ H2 ⟨v,rfl,hv⟩
  walk_at "w";refine ⟨rfl,?_⟩;walk_at "w";rcases hv with ⟨_,rfl,n,L1,hs,rows1,f1,G,hc⟩ | ⟨a,e,n,L1,hs,rows1,f1,G,rfl,rfl,hal,hae,hq,hlo⟩
  ·refine jU rfl ?_;have ee:zQ d kn tails heads=hs:=G.g.trans (zO hc n);have:=q H2 L1 rows1 f1;rw [ee] at this;exact this G.l G.R G.I hc G.st
  ·refine qK rfl ?_;have Ig:=G.I.grown hq hlo;have hb:=bnd _ Ig;rw [List.length_append,List.length_singleton] at hb;have hn4:=G.n4;obtain ⟨k,rfl⟩:∃ k,n=k+1:=⟨n - 1,by omega⟩;refine ⟨fun σ' H3=>∃ v,σ'=[some (.ref p),some v]∧(Yb t.C_Learner t.C_Book H p d L kn heads tails v H3∨∃ m',m' < 401 - hs.length∧QF t.C_Learner t.C_Book H p d L kn heads tails m' v H3),?_,?_⟩
   ·rintro σ' H3 ⟨v,rfl,hv⟩
    rcases hv with hv | ⟨m',hm,hv⟩
    ·exact ⟨0,by omega,v,rfl,.inl ⟨rfl,hv⟩⟩
    ·exact ⟨m',hm,v,rfl,.inr hv⟩
   obtain ⟨dx2,fs2,ho2,hf2⟩:=G.l.ob;have hel:=xX hlo;walk_at "w";refine ⟨p,dx2,_,rfl,ho2,hf2.no _ (by decide +kernel),?_⟩;walk_at "w";refine ⟨p,d,L1,kn,hs,tails,rows1,f1,a,e,rfl,G.l,hae,G.l.sep a (vq hal),by omega,hd6,by omega,by have:=(G.I.lok hel.1).2;omega,G.R.len,fun H3 L3 l3 st3=>?_⟩;have R3:=G.R.head e;have st3':qD p L1 L3 H2 H3:=⟨st3.kp,fun b hb=>by
    rcases st3.own b hb with h | h | h
    ·exact .inl h
    ·exact .inl (by rw [h];exact yi (vq hal))
    ·exact .inr h,st3.mu⟩
   have stL:=G.st.trans st3';have eg:zQ d kn tails heads=ya d kn tails k (hs++[e]):=G.g.trans (vC hq hlo k);have e4:401≤k+(hs++[e]).length:=by rw [List.length_append,List.length_singleton];omega
   obtain ⟨dx3,fs3,ho3,hf3⟩:=l3.ob;walk_at "w";refine qp (fun σ' H1=>∃ v,σ'=[some (.ref p),some v]∧(Yb t.C_Learner t.C_Book H p d L kn heads tails v H1∨∃ m',m' < 401 - hs.length∧QF t.C_Learner t.C_Book H p d L kn heads tails m' v H1)) ?_ ?_
   ·walk_at "w";refine ⟨p,dx3,_,rfl,ho3,hf3.no _ (by decide +kernel),?_⟩;refine ⟨p,d,L3,kn,_,tails,_,_,rfl,l3,R3,smh _ Ig,Ig,hd1,hd6,fun hc H4 rows4 f4 l4 R4 st4=>?_,fun e' hq' hlo' H4 rows4 f4 a' l4 R4 st4 hal' hae'=>?_⟩
    ·walk_at "w";exact ⟨.non,rfl,.inl ⟨rfl,k,L3,_,rows4,f4,⟨eg,e4,Ig,l4,R4,stL.trans st4⟩,hc⟩⟩
    ·walk_at "w";exact ⟨.ref a',rfl,.inr ⟨_,by rw [List.length_append,List.length_singleton];omega,a',e',k,L3,_,rows4,f4,⟨eg,e4,Ig,l4,R4,stL.trans st4⟩,rfl,rfl,hal',hae',hq',hlo'⟩⟩
   rintro σ' H4 ⟨v,rfl,hv⟩
   walk_at "w";exact ⟨v,rfl,hv⟩
theorem KK:jM ["self","lit","word"] ["self","lit"] (j2 Je):=⟨rfl,rfl,rfl,by decide +kernel,rfl,by decide +kernel,by decide +kernel⟩
theorem j0w (T:Txt K mg t):jd K t.fd_zI ["self","lit"] []:=T.F_zI.binds fun _ _ _ _ _ _ us hl=>by obtain ⟨_,_,rfl⟩:=y4 hl;rfl
def wI (K:PySem.W.Frag) (C CB:Addr):Sp:=fun vs H Q _=>∃ (p:Addr) (d:Int) (L:LA) (kn:Bk) (heads tails:List (List Int)) (w:List Int) (lit:Bool),vs=[.ref p,.bl lit]∧LS C CB H p d L kn heads tails∧zh heads tails kn∧kn.length < 100000∧1≤d∧d≤6∧jt d kn heads tails=some w ∧
 (∀ hs,LI d (kn++[(w,lit)]) hs tails→hs.length≤400) ∧
 (∀ H' L',LS C CB H' p d L' (kn++[(w,lit)]) (zQ d (kn++[(w,lit)]) tails heads) tails→qD p L L' H H'→Q .non H')
theorem WG (T:Txt K mg t):qE P w K mg base CX0 6 t.f_zI t.fd_zI ["self","lit"] (wI K t.C_Learner t.C_Book):=by
 refine T.F_zI.ok KK (fun vs H Q E h=>?_) (fun cdv A outer s H vs Q E hr h=>?_)
 ·obtain ⟨p,d,L,kn,heads,tails,w,lit,rfl,_⟩:=h;rfl
 ·obtain ⟨p,d,L,kn,heads,tails,wd,lit,rfl,S,sm,hk,hd1,hd6,hq,bnd,q⟩:=h;obtain ⟨rows,f,lr,R⟩:=S.ex;have I:=S.I;obtain ⟨dx,fs,ho,hf⟩:=lr.ob;obtain ⟨hwo,hno⟩:=I.qok hq;refine ⟨_,j3 (jH (i:=2) KK.nd rfl (Or.inl rfl) (qP (pv 0) T.cl_Learner T.me_zG (Qh T) (hr.mono (by decide)) (Zr T) .nil jP))
 (j3 (jz (jX xb (pv 2) (qf) (je _))
 (j6 (yX))
 (jS))
 (j3 (jZ (qY (jJ K (pv 0) rfl) T.cl_Book T.me_zg (KN T) (hr.mono (by decide)) (Wz T) .nil zW (j0 (pv 2) (j0 (pv 1) (j4)))))
 (j6 (jZ (qP (pv 0) T.cl_Learner T.me_zA (Xv T) (hr.mono (by decide)) (j0I T) .nil jP))))),?_⟩
  walk_at "w";refine ⟨p,dx,_,rfl,ho,hf.no _ (by decide +kernel),?_⟩;refine ⟨p,d,L,kn,heads,tails,rows,f,rfl,lr,R,sm,I.lines1000 sm.hs,(fun hq'=>by rw [hq] at hq';cases hq'),fun w' hq' H1 rows1 f1 wa l1 R1 st1 hwn hwa=>?_⟩;rw [hq] at hq';cases hq';obtain ⟨dx1,fs1,ho1,hf1⟩:=l1.ob;obtain ⟨bx,hbk⟩:=l1.book.ob;walk_at "w";refine ⟨rfl,?_⟩;walk_at "w";refine jU rfl ?_;walk_at "w";refine ⟨_,rfl,p,_,dx1,_,_,rfl,ho1,T.cl_Learner,T.na_Learner_book,hf1.book,?_⟩;refine ⟨L.bk,bx,_,rfl,hbk,vb _ _ (by decide +kernel) (by decide +kernel),?_⟩;walk_at "w";refine ⟨L.bk,d,L.nb,kn,wa,wd,lit,rfl,l1.book,SqL.of hwa,yR hwo hd6,sm.ks,fun _ _ H2 B2 k2=>?_,(fun _ hs=>by rw [hno] at hs;cases hs),(fun _ hs=>by rw [hno] at hs;cases hs),fun nw=>absurd hwo nw⟩;obtain ⟨l2,st2⟩:=l1.noted B2 k2;have R2:=R1.note wd lit;have I2:=I.note lit hq;obtain ⟨dx2,fs2,ho2,hf2⟩:=l2.ob;walk_at "w";refine ⟨p,dx2,_,rfl,ho2,hf2.no _ (by decide +kernel),?_⟩;refine ⟨p,d,L,_,heads,tails,rows1,f1,rfl,l2,R2,⟨sm.hs,sm.ts,sm.tw,by rw [List.length_append,List.length_singleton];omega⟩,I2,hd1,hd6,bnd,fun H3 L3 rows3 f3 l3 R3 I3 c3 st3=>?_⟩;walk_at "w";exact q H3 L3 ⟨⟨rows3,f3,l3,R3⟩,I3,c3⟩ (st1.trans (st2.trans st3))
theorem ke:jM ["self","numbers","leads","ways","number","first"] ["self"] (j2 kD):=⟨rfl,rfl,rfl,by decide +kernel,rfl,by decide +kernel,by decide +kernel⟩
theorem X1 (T:Txt K mg t):jd K t.fd_zK ["self"] []:=T.F_zK.binds fun _ _ _ _ _ _ us hl=>by obtain ⟨_,rfl⟩:=zf hl;rfl
theorem ZB {d:Int} {heads:List (List Int)} {i:Nat} {h:List Int} (e:heads[i]?=some h):((jC d heads).drop (i * (d.toNat+1)+1)).take d.toNat=jT d h:=by
 apply List.ext_getElem?;intro j
 by_cases hj:j < d.toNat
 ·rw [List.getElem?_take_of_lt hj,List.getElem?_drop,YN e hj];unfold jT;rw [List.getElem?_map,List.getElem?_range hj];rfl
 ·rw [List.getElem?_eq_none_iff.mpr (by rw [List.length_take];omega),List.getElem?_eq_none_iff.mpr (by rw [qJ];omega)]
def WH (K:PySem.W.Frag) (C CB CH:Addr):Sp:=fun vs H Q _=>∃ (p:Addr) (d:Int) (L:LA) (kn:Bk) (heads tails:List (List Int)),vs=[.ref p]∧LS C CB H p d L kn heads tails∧zh heads tails kn∧1≤d∧d≤6∧y7 d kn heads tails ∧
 (∀ H' gp aw rs al,LS C CB H' p d L kn heads tails→qD p L L H H'→qX CH H' gp d aw rs (jR d kn heads tails) al (jf kn heads)→(∀ b,b=gp∨b∈al :: aw :: rs→H b=none)→Q (.ref gp) H')
theorem Yh (T:Txt K mg t):qE P w K mg base CX0 6 t.f_zK t.fd_zK ["self"] (WH K t.C_Learner t.C_Book t.C_House):=by
 refine T.F_zK.ok ke (fun vs H Q E h=>?_) (fun cdv A outer s H vs Q E hr h=>?_)
 ·obtain ⟨p,d,L,kn,heads,tails,rfl,_⟩:=h;rfl
 ·obtain ⟨p,d,L,kn,heads,tails,rfl,S,sm,hd1,hd6,Cl,q⟩:=h;obtain ⟨rows,f,lr,R⟩:=S.ex;have I:=S.I;obtain ⟨dx,fs,ho,hf⟩:=lr.ob;refine ⟨_,j3 (jz (jX yc (qP (pv 0) T.cl_Learner T.me_zG (Qh T) (hr.mono (by decide)) (Zr T) .nil jP) (qf) (je _))
 (j6 (yX))
 (jS))
 (j3 (jH (i:=1) ke.nd rfl (Or.inr rfl) (qP (pv 0) T.cl_Learner T.me_zB (Xt T) (hr.mono (by decide)) (wN T) .nil jP))
 (j3 (Yk (i:=2) (N:=["self","numbers","leads","ways","number","first"]) (sc0:=(j2 kD)) (N':=["row","numbers"]) (caps:=[none,some 1]) (by exact ⟨rfl,by decide +kernel,by decide +kernel,by decide +kernel,rfl,rfl,by decide +kernel⟩) rfl ke.nd rfl (Or.inl rfl) (jp K (jJ K (pv 0) rfl)) (fun _ _ _ _ _ _=>jL (i:=0) (show List.Nodup (["row","numbers"]:List Str) from by decide +kernel) rfl (Or.inl rfl)) (fun _ _ _ _ _ _=>Xb (Qg P w) hr.u16 (pv 1) (qG (ju K) rfl T.m_tuple boot_tuple (j0 (pv 0) (j4))) (fun _ _=>rfl)))
 (j3 (jH (i:=3) ke.nd rfl (Or.inl rfl) (jg (j4)))
 (j3 (qC PassesOwn.never rfl (qI rfl T.m_range (j0 (jI (jB K) rfl T.m_len PySem.boot_len (j0 (jJ K (pv 0) rfl) (j4))) (j4))) (jL (i:=4) ke.nd rfl (Or.inl rfl))
 (j3 (jH (i:=5) ke.nd rfl (Or.inl rfl) (jq y8 (jq vi (pv 4) (jq y8 (jJ K (pv 0) rfl) (jG))) (jG)))
 (j6 (jZ (qc K PySem.F.plainAttrs_list PySem.F.slot_list_append PySem.F.type_list_append jj (pv 3) (j0 (vN (vE K) (pv 2) (vH (pv 5)) (vH (jq y8 (pv 5) (jJ K (pv 0) rfl)))) (j4)))))))
 (j6 (jO (xI T.mk_House (Ki T) (hr.mono (by decide)) rfl T.mg_House (j0R T) .nil jP (j0 (jJ K (pv 0) rfl) (j0 (pv 3) (j0 (yS (N:=["self","numbers","leads","ways","number","first"]) (sc0:=(j2 kD)) (N':=["head","self"]) (caps:=[none,some 0]) (by exact ⟨rfl,by decide +kernel,by decide +kernel,by decide +kernel,rfl,rfl,by decide +kernel⟩) rfl (jp K (jJ K (pv 0) rfl)) (fun _ _ _ _ _ _=>jL (i:=0) (show List.Nodup (["head","self"]:List Str) from by decide +kernel) rfl (Or.inl rfl)) (fun _ _ _ _ _ _=>qY (jJ K (pv 1) rfl) T.cl_Book T.me_zf (KJ T) (hr.mono (by decide)) (wS T) .nil zW (j0 (pv 0) (j4)))) (j4))))))))))),?_⟩
  walk_at "w";refine ⟨p,dx,_,rfl,ho,hf.no _ (by decide +kernel),?_⟩;refine ⟨p,d,L,kn,heads,tails,rows,f,rfl,lr,R,sm,I.lines1000 sm.hs,fun _ H1 rows1 l1 R1 st1=>?_,(fun w' hq'=>by rw [Cl.q] at hq';cases hq')⟩;obtain ⟨dx1,fs1,ho1,hf1⟩:=l1.ob;have hrows:=R1.all.2;walk_at "w";refine ⟨rfl,?_⟩;walk_at "w";refine jU rfl ?_;walk_at "w";refine ⟨p,dx1,_,rfl,ho1,hf1.no _ (by decide +kernel),?_⟩;refine ⟨p,d,L,kn,heads,tails,rows1,_,rfl,l1,hrows,I,sm.hs,hd1,hd6,fun H2 nb s2 hnb dg2=>?_⟩;have l2:=l1.same s2;have hLl:(jC d heads).length=heads.length * (d.toNat+1):=yI d heads;have hLb:heads.length * (d.toNat+1)≤2800:=by
   have:heads.length * (d.toNat+1)≤400 * 7:=Nat.mul_le_mul sm.hs (by omega);omega
  have hRl:L.rA.length=(jC d heads).length:=by rw [l2.rww.len,R1.len]
  walk_at "w";refine ⟨_,rfl,p,_,dx1,_,_,rfl,s2 _ _ ho1,T.cl_Learner,T.na_Learner_rows,hf1.rows,?_⟩;refine ⟨L.ro,rfl,⟨_,SqL.of l2.rws⟩,?_⟩;refine yF (xs:=L.rA.map V.ref) (fun acc i ys H'=>(∀ b o,H2 b=some o→H' b=some o)∧H2 acc=none∧H' acc=some (.lst ys)∧ys=(((jC d heads).take i).map (ixR kn heads tails)).map V.int) (fun acc hacc=>⟨fun b o e=>j7.upd_new hacc b o e,hacc,j1,rfl⟩) (fun acc i ys H' hacc _ pp=>SqL.of (pp.1 _ _ l2.rws)) (fun acc i x ys H3 hacc hx pp=>?_) (fun acc ys H3 hacc pp=>?_)
  ·obtain ⟨s3,_,hac,rfl⟩:=pp;have hx0:=jc hx;clear hx;obtain ⟨ra,rfl,hra⟩:=hx0;have hi:i < (jC d heads).length:=by rw [← hRl];exact (List.getElem?_eq_some_iff.mp hra).1
   have hl:=List.getElem?_eq_getElem hi;have hr:rows1[i]?=some (jQ kn tails (jC d heads)[i]):=by rw [hrows,List.getElem?_map,hl];rfl
   have hin:=zN.mp Cl.l _ (List.getElem_mem hi);generalize (jC d heads)[i]=l at hl hr hin;have ra2:=l2.rww.row i ra _ hra hr;walk_at "w";refine ⟨Wk.set rfl,?_⟩;walk_at "w";refine ⟨ra,_,rfl,.inl ⟨SqL.of (s3 _ _ ra2),fun kt hkt=>?_⟩⟩;have s5:j7 H3 (upd H3 kt (.tup ((jQ kn tails l).map V.bl))):=j7.upd_new hkt;have kt5:(upd H3 kt (.tup ((jQ kn tails l).map V.bl))) kt=some (.tup ((jQ kn tails l).map V.bl)):=j1;generalize upd H3 kt (.tup ((jQ kn tails l).map V.bl))=H5 at s5 kt5 ⊢;refine ⟨nb,kt,jQ kn tails l,_,_,rfl,rfl,kt5,dg2.same (fun b o e=>s5 _ _ (s3 b o e)),by rw [kf,if_pos hin],?_⟩;refine ⟨s5 _ _ hac,qj (by rw [List.length_map,List.length_map,List.length_take];omega),fun b o e=>?_,hacc,j1,?_⟩
   ·rw [j5 (jA e hacc)];exact s5 _ _ (s3 b o e)
   ·rw [jn hl,List.map_append,List.map_append];rfl
  ·obtain ⟨s3,_,hac,rfl⟩:=pp;rw [List.length_map,hRl,List.take_length] at hac;have s3':j7 H2 H3:=s3;clear s3;have l3:=l2.same s3';have st3:qD p L L H H3:=st1.trans (.same (s2.trans s3'));have s13:j7 H1 H3:=s2.trans s3';walk_at "w";refine ⟨Nat.zero_le _,fun wa hwa=>?_⟩;have G0:qr H3 (upd H3 wa (.lst [])) wa [] (fun j=>(jR d kn heads tails).getD j []):=qr.start hwa;have s4:j7 H3 (upd H3 wa (.lst [])):=j7.upd_new hwa;generalize upd H3 wa (.lst [])=H4 at G0 s4 ⊢;walk_at "w";refine ⟨_,rfl,p,_,dx1,_,_,rfl,s4 _ _ (s13 _ _ ho1),T.cl_Learner,T.na_Learner_heads,hf1.heads,?_⟩;refine ⟨_,_,rfl,.inl (SqL.of (s4 _ _ l3.hds)),?_⟩;rw [List.length_map,l3.hdw.len];walk_at "w";refine ⟨_,rfl,by omega,by have:=sm.hs;omega,?_⟩;refine qR (fun i σ H'=>∃ rs,rs.length=i∧qr H3 H' wa rs (fun j=>(jR d kn heads tails).getD j [])∧∃ k4 k5,σ=[some (.ref p),some (.ref nb),some (.ref acc),some (.ref wa),k4,k5]) ⟨[],rfl,G0,_,_,rfl⟩ (fun i σ H5 hi pp=>?_) (fun σ H5 pp=>?_)
   ·obtain ⟨rs,hrs,G,k4,k5,rfl⟩:=pp;have hih:i < heads.length:=by omega
    have hhi:=List.getElem?_eq_getElem hih;have e0:(0:Int)+(i:Int)=(i:Int):=by omega
    rw [e0];have hm:=sm.hs;have hmul:(i:Int) * (d+1)=((i * (d.toNat+1):Nat):Int):=by
     rw [Int.natCast_mul,Int.natCast_add];have:(d.toNat:Int)=d:=Int.toNat_of_nonneg (by omega);rw [this];rfl
    have hib:i * (d.toNat+1)+(d.toNat+1)≤heads.length * (d.toNat+1):=by
     have:=Nat.mul_le_mul_right (d.toNat+1) (show i+1≤heads.length by omega);rw [Nat.succ_mul] at this;omega
    walk_at "w";refine ⟨_,rfl,p,_,dx1,_,_,rfl,G.same _ _ (s13 _ _ ho1),T.cl_Learner,T.na_Learner_doors,hf1.doors,?_⟩;walk_at "w";refine r_I (Or.inl ⟨by omega,by omega⟩) ?_;walk_at "w";rw [hmul];refine ⟨.inl ⟨rfl,_,SqL.of G.top⟩,?_⟩;walk_at "w";refine ⟨_,rfl,?_⟩;walk_at "w";refine ⟨_,rfl,p,_,dx1,_,_,rfl,G.same _ _ (s13 _ _ ho1),T.cl_Learner,T.na_Learner_doors,hf1.doors,?_⟩;walk_at "w";refine ⟨_,rfl,?_⟩;refine ⟨acc,_,rfl,SqL.of (G.same _ _ hac),fun sl hsl=>?_⟩;have hcut:vX (((jC d heads).map (ixR kn heads tails)).map V.int) (some (((i * (d.toNat+1):Nat):Int)+1)) (some (((i * (d.toNat+1):Nat):Int)+1+d))=((jR d kn heads tails).getD rs.length []).map V.int:=by
     rw [XS (by omega) (by omega) (by rw [List.length_map,List.length_map,hLl];omega)];rw [show (((i * (d.toNat+1):Nat):Int)+1).toNat=i * (d.toNat+1)+1 by omega,show (((i * (d.toNat+1):Nat):Int)+1+d).toNat - (i * (d.toNat+1)+1)=d.toNat by omega];rw [← List.map_drop,← List.map_drop,← List.map_take,← List.map_take,ZB hhi];unfold jR;rw [hrs,List.getD_eq_getElem?_getD,List.getElem?_map,hhi];rfl
    rw [hcut];have nsw:wa≠sl:=jA G.top hsl;refine ⟨wa,_,_,rfl,rfl,by rw [j5 nsw];exact G.top,qj (by rw [List.length_map];omega),?_⟩;refine ⟨rs++[sl],by simp [hrs],G.step hsl (by rw [j1,List.map_append];rfl) (by rw [j5 (Ne.symm nsw),j1]) (fun b o h1 _ e=>by rw [j5 h1,j5 (jA e hsl)];exact e),_,_,rfl⟩
   ·obtain ⟨rs,hrs,G,k4,k5,rfl⟩:=pp;rw [Int.toNat_natCast] at hrs;have M5:=G.matOf (by rw [hrs];unfold jR;rw [List.length_map]);have l5:=l3.same G.same;have ho5:=G.same _ _ (s13 _ _ ho1);walk_at "w";refine ⟨_,rfl,p,_,dx1,_,_,rfl,ho5,T.cl_Learner,T.na_Learner_doors,hf1.doors,?_⟩;walk_at "w";refine ⟨_,rfl,p,_,dx1,_,_,rfl,ho5,T.cl_Learner,T.na_Learner_heads,hf1.heads,?_⟩;refine ⟨L.ha,rfl,⟨_,SqL.of l5.hds⟩,?_⟩;refine yF (xs:=L.hA.map V.ref) (fun ac i ys H'=>(∀ b o,H5 b=some o→H' b=some o)∧H' ac=some (.lst ys)∧ys=((jf kn heads).take i).map V.bl) (fun ac hacc=>⟨fun b o e=>j7.upd_new hacc b o e,j1,rfl⟩) (fun ac i ys H' hacc _ pp=>SqL.of (pp.1 _ _ l5.hds)) (fun ac i x ys H6 hacc hx pp=>?_) (fun ac ys H6 hacc pp=>?_)
    ·obtain ⟨s6,hac6,rfl⟩:=pp;have hx0:=jc hx;clear hx;obtain ⟨hx,rfl,hha⟩:=hx0;have hi:i < heads.length:=by rw [← l5.hdw.len];exact (List.getElem?_eq_some_iff.mp hha).1
     have hhi:=List.getElem?_eq_getElem hi;have hw6:=l5.hdw.row i hx _ hha hhi;have hwo:=I.hok _ (List.getElem_mem hi);obtain ⟨bb,hbb⟩:=ql.mp Cl.q heads[i] (qF.mpr ⟨_,List.getElem_mem hi,.inl rfl⟩) [] I.tmem0;rw [List.append_nil] at hbb;have hgl:(jf kn heads)[i]?=some bb:=by unfold jf;rw [List.getElem?_map,hhi,Option.map_some,hbb];rfl
     generalize heads[i]=hd at hhi hw6 hwo hbb;have l6:jk t.C_Learner t.C_Book H6 p d L kn heads tails rows1 _:=l5.same s6;obtain ⟨bx,hbk⟩:=l6.book.ob;walk_at "w";refine ⟨Wk.set rfl,?_⟩;walk_at "w";refine ⟨_,rfl,p,_,dx1,_,_,rfl,s6 _ _ ho5,T.cl_Learner,T.na_Learner_book,hf1.book,?_⟩;refine ⟨L.bk,bx,_,rfl,hbk,vb _ _ (by decide +kernel) (by decide +kernel),?_⟩;walk_at "w";refine ⟨L.bk,d,L.nb,kn,hx,hd,rfl,l6.book,SqL.of (s6 _ _ hw6),yR hwo hd6,fun _ H7 s7=>?_,fun nw=>absurd hwo nw⟩;have e7:kE kn hd=.bl bb:=by unfold kE;rw [hbb];rfl
     rw [e7];refine ⟨s7 _ _ hac6,qj (by rw [List.length_map,List.length_take];have:=sm.hs;omega),fun b o e=>?_,j1,?_⟩
     ·rw [j5 (jA e hacc)];exact s7 _ _ (s6 b o e)
     ·rw [jn hgl,List.map_append];rfl
    ·obtain ⟨s6,hac6,rfl⟩:=pp;have hgll:(jf kn heads).length=heads.length:=by simp [jf]
     rw [List.length_map,l5.hdw.len,← hgll,List.take_length] at hac6;have s6':j7 H5 H6:=s6;have l6:=l5.same s6';have M6:=M5.same s6';walk_at "w";intro hp hdx e1 e2 e3;have sm6:j7 H6 (upd (upd H6 hdx (.own hp)) hp (.ins t.C_House hdx [])):=(j7.upd_new e2).trans (j7.upd_new (by rw [j5 (Ne.symm e3)];exact e1));refine ⟨hp,hdx,d,wa,rs,jR d kn heads tails,ac,jf kn heads,rfl,j1,M6.same sm6,SqL.of (sm6 _ _ hac6),I.valid Cl hd1 hd6 sm.hs,fun H7 aw7 rs7 al7 hh7 keep7 new7=>⟨rfl,?_⟩⟩;have s7:j7 H6 H7:=fun b o e=>keep7 b o (sm6 b o e) (jA e e1);have sAll:j7 H1 H7:=(s13.trans G.same).trans (s6'.trans s7);have hfree:∀ b,H6 b=none→H b=none:=fun b e=>by
      have e':=((s13.trans G.same).trans s6').free e;cases hh:H b with
      | none=>rfl
      | some o =>
       rw [st1.kp b o (fun z=>l1.notOwn e' (jx z)) hh] at e';cases e'
     walk_at "w";refine q H7 hp aw7 rs7 al7 ⟨⟨rows1,_,l1.same sAll,R1⟩,I,S.st⟩ (st1.trans (.same sAll)) hh7 (fun b hb=>?_);rcases hb with rfl | hb
     ·exact hfree _ e1
     ·exact hfree _ (sm6.free (new7 b hb))
theorem V6:jM ["self","word","size","end"] ["self","word"] (j2 Jm):=⟨rfl,rfl,rfl,by decide +kernel,rfl,by decide +kernel,by decide +kernel⟩
theorem j1A (T:Txt K mg t):jd K t.fd_zD ["self","word"] []:=T.F_zD.binds fun _ _ _ _ _ _ us hl=>by obtain ⟨_,_,rfl⟩:=y4 hl;rfl
def j0A (K:PySem.W.Frag) (C CB:Addr):Sp:=fun vs H Q _=>∃ (p:Addr) (d:Int) (L:LA) (kn:Bk) (heads tails:List (List Int)) (rows:List (List Bool)) (f:Nat) (b:Addr) (ws:List Int),vs=[.ref p,.ref b]∧jk C CB H p d L kn heads tails rows f∧H b=some (.lst (ws.map V.int))∧b∉qH p L∧ws.length≤100000∧tails.length≤100000 ∧
 (∀ H' L',jk C CB H' p d L' kn heads (yW tails ws) rows 0→qD p L L' H H'→Q .non H')
theorem j0f (T:Txt K mg t):qE P w K mg base CX0 1 t.f_zD t.fd_zD ["self","word"] (j0A K t.C_Learner t.C_Book):=by
 refine T.F_zD.ok V6 (fun vs H Q E h=>?_) (fun cdv A outer s H vs Q E hr h=>?_)
 ·obtain ⟨p,d,L,kn,heads,tails,rows,f,b,ws,rfl,_⟩:=h;rfl
 ·obtain ⟨p,d,L,kn,heads,tails,rows,f,b,ws,rfl,lr,hb,nb,hw5,ht5,q⟩:=h;refine ⟨_,j3 (qC PassesOwn.never rfl (Za rfl T.m_range (j0 (jG) (j0 (jq y8 (jI (jB K) rfl T.m_len PySem.boot_len (j0 (pv 1) (j4))) (jG)) (j4)))) (jL (i:=2) V6.nd rfl (Or.inl rfl))
 (j3 (jH (i:=3) V6.nd rfl (Or.inl rfl) (vN (vE K) (pv 1) (vH (jq Y4 (jI (jB K) rfl T.m_len PySem.boot_len (j0 (pv 1) (j4))) (pv 2))) (JH)))
 (j6 (qV (jz (v4 (VQ (xM K hr.u80) (pv 3) (jJ K (pv 0) rfl)))
 (j6 (jZ (qc K PySem.F.plainAttrs_list PySem.F.slot_list_append PySem.F.type_list_append jj (jJ K (pv 0) rfl) (j0 (pv 3) (j4)))))
 (jS))))))
 (j6 (qx K (pv 0) (jG) rfl)),?_⟩
  walk_at "w";refine ⟨b,_,rfl,.inl (SqL.of hb),?_⟩;rw [List.length_map];walk_at "w";refine ⟨_,_,rfl,by constructor <;> omega,?_⟩;refine qR (fun i σ H'=>∃ L',jk t.C_Learner t.C_Book H' p d L' kn heads (qi tails ws i) rows f∧qD p L L' H H'∧qH p L'=qH p L∧∃ k2 k3,σ=[some (.ref p),some (.ref b),k2,k3]) ⟨L,lr,.same (j7.refl _),rfl,_,_,rfl⟩ (fun i σ H1 hi pp=>?_) (fun σ H1 pp=>?_)
  ·obtain ⟨L1,l1,st1,eta,k2,k3,rfl⟩:=pp;have hi':i < ws.length:=by omega
   obtain ⟨dx1,fs1,ho1,hf1⟩:=l1.ob;have hb1:H1 b=some (.lst (ws.map V.int)):=st1.kp _ _ nb hb;have nb1:b∉qH p L1:=fun z=>by
    rcases st1.mu b z with h | h
    ·exact nb h
    ·rw [hb] at h;cases h
   walk_at "w";refine ⟨b,_,rfl,.inl (SqL.of hb1),?_⟩;rw [List.length_map];walk_at "w";refine ⟨_,rfl,?_⟩;walk_at "w";refine ⟨b,_,rfl,SqL.of hb1,fun e he=>?_⟩;have hcut:vX (ws.map V.int) (some ((ws.length:Int) - (1+(i:Int)))) none=(ws.drop (ws.length - (i+1))).map V.int:=by
    rw [QW (by omega) (by rw [List.length_map];omega),List.map_drop];congr 1;omega
   rw [hcut];have s2:j7 H1 (upd H1 e (.lst ((ws.drop (ws.length - (i+1))).map V.int))):=j7.upd_new he;have e2:(upd H1 e (.lst ((ws.drop (ws.length - (i+1))).map V.int))) e=some (.lst ((ws.drop (ws.length - (i+1))).map V.int)):=j1;have ne:=l1.notOwn he;generalize upd H1 e (.lst ((ws.drop (ws.length - (i+1))).map V.int))=H2 at s2 e2 ⊢;have l2:=l1.same s2;walk_at "w";have eend:qi tails ws (i+1)=if ws.drop (ws.length - (i+1))∈qi tails ws i then qi tails ws i else qi tails ws i++[ws.drop (ws.length - (i+1))]:=rfl
   refine qp (fun σ' H'=>∃ L',jk t.C_Learner t.C_Book H' p d L' kn heads (qi tails ws (i+1)) rows f∧qD p L L' H H'∧qH p L'=qH p L∧∃ k2 k3,σ'=[some (.ref p),some (.ref b),k2,k3]) ?_ (fun σ' H' z=>z);walk_at "w";refine ⟨_,rfl,p,_,dx1,_,_,rfl,s2 _ _ ho1,T.cl_Learner,T.na_Learner_tails,hf1.tails,?_⟩;refine ⟨e,L1.ta,_,L1.tA,_,rfl,rfl,SqL.of e2,SqL.of l2.tls,l2.tlw,?_⟩
   walk_at "w";by_cases hm:ws.drop (ws.length - (i+1))∈qi tails ws i
   ·refine jU (by simp [hm]) ?_;walk_at "w";rw [eend,if_pos hm];exact ⟨L1,l2,st1.trans (.same s2),eta,_,_,rfl⟩
   ·refine qK (by simp [hm]) ?_;walk_at "w";refine ⟨_,rfl,p,_,dx1,_,_,rfl,s2 _ _ ho1,T.cl_Learner,T.na_Learner_tails,hf1.tails,?_⟩;walk_at "w";refine ⟨.inl ⟨rfl,_,SqL.of l2.tls⟩,?_⟩;walk_at "w";obtain ⟨r,er,hrl⟩:=yf (tails:=tails) (w:=ws) i;refine ⟨L1.ta,_,_,rfl,rfl,l2.tls,qj (by rw [List.length_map,l2.tlw.len,er,List.length_append];omega),?_⟩;obtain ⟨l3,k3⟩:=l2.tail e2 (fun z=>ne (jx z));rw [show L1.tA.map V.ref++[V.ref e]=(L1.tA++[e]).map V.ref by rw [List.map_append];rfl];rw [eend,if_neg hm];have heH:H e=none:=by
     cases hh:H e with
     | none=>rfl
     | some o =>
      have:e∉qH p L:=fun z=>ne (jx (by rw [eta];exact z));rw [st1.kp e o this hh] at he;cases he
    refine ⟨_,l3,⟨fun c o hc q=>k3 c o (fun z=>hc (by rw [← eta,z];exact JG)) (s2 _ _ (st1.kp c o hc q)),fun c hc=>?_,fun c hc=>.inl (by rw [← eta];exact hc)⟩,eta,_,_,rfl⟩;rcases Vl hc with h | h
    ·exact st1.own c h
    ·rw [h];exact .inr heH
  ·obtain ⟨L1,l1,st1,eta,k2,k3,rfl⟩:=pp;obtain ⟨dx1,fs1,ho1,hf1⟩:=l1.ob;walk_at "w";refine ⟨p,_,dx1,_,rfl,ho1,T.cl_Learner,T.na_Learner_filled,by have:=hf1.len;omega,?_⟩;obtain ⟨l2,st2⟩:=l1.setF (dx:=dx1) (hf1.setF 0);have el:((ws.length:Int)+1 - 1).toNat=ws.length:=by omega
   rw [el] at l2;exact q _ L1 l2 (st1.trans st2)
theorem KS:jM ["self","word","lit","guessed"] ["self","word","lit"] (j2 QA):=⟨rfl,rfl,rfl,by decide +kernel,rfl,by decide +kernel,by decide +kernel⟩
theorem j17 (T:Txt K mg t):jd K t.fd_zL ["self","word","lit"] []:=T.F_zL.binds fun _ _ _ _ _ _ us hl=>by obtain ⟨_,_,_,rfl⟩:=zX hl;rfl
def WM (K:PySem.W.Frag) (C CB:Addr):Sp:=fun vs H Q _=>∃ (p:Addr) (d:Int) (L:LA) (kn:Bk) (heads tails:List (List Int)) (b:Addr) (ws:List Int) (lit:Bool),vs=[.ref p,.ref b,.bl lit]∧LS C CB H p d L kn heads tails∧zh heads (yW tails ws) kn∧tails.length≤100000∧kn.length < 100000∧1≤d∧d≤6∧y7 d kn heads tails ∧
 H b=some (.lst (ws.map V.int))∧b∉yq p L∧jD d ws∧ws.length≤900∧saidO kn ws=none∧jW (jR d kn heads tails) (jf kn heads) ws=!lit ∧
 (∀ hs,LI d (kn++[(ws,lit)]) hs (yW tails ws)→hs.length≤400) ∧
 (∀ H' L',LS C CB H' p d L' (kn++[(ws,lit)]) (zQ d (kn++[(ws,lit)]) (yW tails ws) heads) (yW tails ws)→qD p L L' H H'→Q .non H')
theorem W7 (T:Txt K mg t):qE P w K mg base CX0 8 t.f_zL t.fd_zL ["self","word","lit"] (WM K t.C_Learner t.C_Book):=by
 refine T.F_zL.ok KS (fun vs H Q E h=>?_) (fun cdv A outer s H vs Q E hr h=>?_)
 ·obtain ⟨p,d,L,kn,heads,tails,b,ws,lit,rfl,_⟩:=h;rfl
 ·obtain ⟨p,d,L,kn,heads,tails,b,ws,lit,rfl,S,sm,ht5,hk,hd1,hd6,Cl,hb,nb,hwo,hw9,hno,hlamp,bnd,q⟩:=h;obtain ⟨rows,f,lr,R⟩:=S.ex;have I:=S.I;obtain ⟨dx,fs,ho,hf⟩:=lr.ob;have sm0:zh heads tails kn:=⟨sm.hs,ht5,fun t ht=>sm.tw t (yN ht),sm.ks⟩;refine ⟨_,j3 (jH (i:=3) KS.nd rfl (Or.inl rfl) (qP (pv 0) T.cl_Learner T.me_zK (Yh T) (hr.mono (by decide)) (X1 T) .nil jP))
 (j3 (jZ (qY (jJ K (pv 0) rfl) T.cl_Book T.me_zH (K3 T) (hr.mono (by decide)) (WS T) .nil zW (j0 (pv 1) (j0 (pv 2) (j4)))))
 (j3 (jz (jX Qe (qY (pv 3) T.cl_House T.me_zZ (VS T) (hr.mono (by decide)) (UH T) .nil zW (j0 (pv 1) (j4))) (pv 2) (je _))
 (j6 (yX))
 (jS))
 (j3 (jZ (qY (jJ K (pv 0) rfl) T.cl_Book T.me_zg (KN T) (hr.mono (by decide)) (Wz T) .nil zW (j0 (pv 1) (j0 (pv 2) (j4)))))
 (j3 (jZ (qY (pv 0) T.cl_Learner T.me_zD (j0f T) (hr.mono (by decide)) (j1A T) .nil jP (j0 (pv 1) (j4))))
 (j6 (jZ (qP (pv 0) T.cl_Learner T.me_zA (Xv T) (hr.mono (by decide)) (j0I T) .nil jP))))))),?_⟩
  walk_at "w";refine ⟨p,dx,_,rfl,ho,hf.no _ (by decide +kernel),?_⟩;refine ⟨p,d,L,kn,heads,tails,rfl,S,sm0,hd1,hd6,Cl,fun H1 gp aw rs al S1 st1 hh1 new1=>?_⟩;obtain ⟨rows1,f1,l1,R1⟩:=S1.ex;obtain ⟨dx1,fs1,ho1,hf1⟩:=l1.ob;obtain ⟨bx,hbk⟩:=l1.book.ob;have nbm:b∉qH p L:=fun z=>nb (jx z);have hb1:H1 b=some (.lst (ws.map V.int)):=st1.kp _ _ nbm hb;have V1:=I.valid Cl hd1 hd6 sm.hs;walk_at "w";refine ⟨_,rfl,p,_,dx1,_,_,rfl,ho1,T.cl_Learner,T.na_Learner_book,hf1.book,?_⟩;refine ⟨L.bk,bx,_,rfl,hbk,vb _ _ (by decide +kernel) (by decide +kernel),?_⟩;walk_at "w";refine ⟨L.bk,d,L.nb,kn,b,ws,lit,rfl,l1.book,SqL.of hb1,yR hwo hd6,fun _ _ H2 s2=>?_,(fun _ hs=>by rw [hno] at hs;cases hs),fun nw=>absurd hwo nw⟩;have hh2:=hh1.same s2;obtain ⟨gdx,hgo⟩:=hh2.ob;walk_at "w";refine ⟨gp,gdx,_,rfl,hgo,vc _ _ _ (by decide +kernel) (by decide +kernel) (by decide +kernel),?_⟩;walk_at "w";refine ⟨gp,d,aw,rs,_,al,_,b,ws,rfl,hh2,V1.toWays,by have:=V1.r1;omega,V1.ll,SqL.of (s2 _ _ hb1),yR hwo hd6,hw9,fun _ H3 s3=>?_,fun nw=>absurd hwo nw⟩;have hlamp':(jf kn heads).getD (jF (jR d kn heads tails) 0 ws).toNat false=!lit:=hlamp;rw [hlamp'];walk_at "w";refine Zy rfl ?_;walk_at "w";refine jU (by cases lit <;> simp) ?_;have s13:=s2.trans s3;have l3:=l1.same s13;obtain ⟨bx3,hbk3⟩:=l3.book.ob;walk_at "w";refine ⟨_,rfl,p,_,dx1,_,_,rfl,s13 _ _ ho1,T.cl_Learner,T.na_Learner_book,hf1.book,?_⟩;refine ⟨L.bk,bx3,_,rfl,hbk3,vb _ _ (by decide +kernel) (by decide +kernel),?_⟩;walk_at "w";refine ⟨L.bk,d,L.nb,kn,b,ws,lit,rfl,l3.book,SqL.of (s13 _ _ hb1),yR hwo hd6,sm.ks,fun _ _ H4 B4 k4=>?_,(fun _ hs=>by rw [hno] at hs;cases hs),(fun _ hs=>by rw [hno] at hs;cases hs),fun nw=>absurd hwo nw⟩;obtain ⟨l4,st4⟩:=l3.noted B4 k4;obtain ⟨dx4,fs4,ho4,hf4⟩:=l4.ob;have hb4:H4 b=some (.lst (ws.map V.int)):=k4 _ _ (fun z=>nbm (by rw [z];exact QK)) (s13 _ _ hb1);walk_at "w";refine ⟨p,dx4,_,rfl,ho4,hf4.no _ (by decide +kernel),?_⟩;walk_at "w";refine ⟨p,d,L,_,heads,tails,rows1,f1,b,ws,rfl,l4,hb4,nbm,by omega,ht5,fun H5 L5 l5 st5=>?_⟩;obtain ⟨dx5,fs5,ho5,hf5⟩:=l5.ob;obtain ⟨r,er,hrl⟩:=yf (tails:=tails) (w:=ws) ws.length;have R5:jv d (kn++[(ws,lit)]) heads (yW tails ws) rows1 0:=by
   unfold yW;rw [er];exact (R1.note ws lit).more r
  have I5:=I.told lit hwo hno;walk_at "w";refine ⟨p,dx5,_,rfl,ho5,hf5.no _ (by decide +kernel),?_⟩;refine ⟨p,d,L5,_,heads,_,rows1,0,rfl,l5,R5,⟨sm.hs,sm.ts,sm.tw,by rw [List.length_append,List.length_singleton];omega⟩,I5,hd1,hd6,bnd,fun H6 L6 rows6 f6 l6 R6 I6 c6 st6=>?_⟩;walk_at "w";exact q H6 L6 ⟨⟨rows6,f6,l6,R6⟩,I6,c6⟩ (st1.trans ((qD.same s13).trans (st4.trans (st5.trans st6))))
theorem Qn:jM ["learner","house","answered","word"] ["learner","house"] (j2 Q9):=⟨rfl,rfl,rfl,by decide +kernel,rfl,by decide +kernel,by decide +kernel⟩
theorem WO (T:Txt K mg t):jd K t.fd_zb ["learner","house"] []:=T.F_zb.binds fun _ _ _ _ _ _ us hl=>by obtain ⟨_,_,rfl⟩:=y4 hl;rfl
inductive yP (d:Int) (rss:List (List Int)) (ls:List Bool):Bk→List (List Int)→List (List Int)→List (List Int)→Nat→Prop
 | start:yP d rss ls [] [[]] [[]] [] 0
 | ask {kn:Bk} {heads tails told:List (List Int)} {n:Nat} {w:List Int}:yP d rss ls kn heads tails told n→jt d kn heads tails=some w→yP d rss ls (kn++[(w,jW rss ls w)]) (zQ d (kn++[(w,jW rss ls w)]) tails heads) tails told (n+1)
 | tell {kn:Bk} {heads tails told:List (List Int)} {n:Nat} {w:List Int}:yP d rss ls kn heads tails told n→jt d kn heads tails=none→x6 d (jR d kn heads tails) rss (jf kn heads) ls 0 0 w→yP d rss ls (kn++[(w,jW rss ls w)]) (zQ d (kn++[(w,jW rss ls w)]) (yW tails w) heads) (yW tails w) (told++[w]) n
structure x5 (d:Int) (rss:List (List Int)) (ls:List Bool) (tails:List (List Int)) (kn:Bk) (heads:List (List Int)) (kn':Bk) (heads':List (List Int)) (n:Nat):Prop where
 path:∀ told m,yP d rss ls kn heads tails told m→yP d rss ls kn' heads' tails told (m+n)
 pre:∃ r,heads'=heads++r
 mono:∀ u b,saidO kn u=some b→saidO kn' u=some b
 F:v5 rss ls kn'
theorem x5.refl {d:Int} {rss:List (List Int)} {ls:List Bool} {tails:List (List Int)} {kn:Bk} {heads:List (List Int)} (F:v5 rss ls kn):x5 d rss ls tails kn heads kn heads 0:=⟨fun _ _ p=>p,⟨[],by simp⟩,fun _ _ h=>h,F⟩
theorem x5.ask {d:Int} {rss:List (List Int)} {ls:List Bool} {tails:List (List Int)} {kn kn':Bk} {heads heads':List (List Int)} {n:Nat} (A:x5 d rss ls tails kn heads kn' heads' n) {w:List Int} (hq:jt d kn' heads' tails=some w):x5 d rss ls tails kn heads (kn'++[(w,jW rss ls w)]) (zQ d (kn'++[(w,jW rss ls w)]) tails heads') (n+1):=by
 obtain ⟨r,hr⟩:=A.pre;obtain ⟨g,hg⟩:=yp d (kn'++[(w,jW rss ls w)]) tails heads';exact ⟨fun told m p=>by have:=(A.path told m p).ask hq;exact this,⟨r++g,by rw [hg,hr,List.append_assoc]⟩,fun u b h=>qd (A.mono u b h),A.F.add w⟩
def j0Z (K:PySem.W.Frag) (C CB CH:Addr):Sp:=fun vs H Q _=>∃ (p:Addr) (d:Int) (L:LA) (kn:Bk) (heads tails:List (List Int)) (H0:Hp) (hp aw:Addr) (rs:List Addr) (rss:List (List Int)) (al:Addr) (ls:List Bool),vs=[.ref p,.ref hp]∧LS C CB H p d L kn heads tails∧Env H0 H p L∧qX CH H0 hp d aw rs rss al ls∧zA d rss ls∧v5 rss ls kn∧tails.length≤100000∧(∀ t∈tails,t.length≤400) ∧
 (∀ kn' hs,LI d kn' hs tails→v5 rss ls kn'→hs.length≤400∧((kn'.map Prod.fst).Nodup→kn'.length≤90000)) ∧
 (∀ H' L' kn' heads' (n:Nat),LS C CB H' p d L' kn' heads' tails→qD p L L' H H'→jt d kn' heads' tails=none→x5 d rss ls tails kn heads kn' heads' n→Q (.int (n:Nat)) H')
structure X3 (C CB:Addr) (H0 H H1:Hp) (p:Addr) (d:Int) (rss:List (List Int)) (ls:List Bool) (L:LA) (kn:Bk) (heads tails:List (List Int)) (L1:LA) (kn1:Bk) (hs1:List (List Int)) (n:Nat):Prop where
 S:LS C CB H1 p d L1 kn1 hs1 tails
 E:Env H0 H1 p L1
 A:x5 d rss ls tails kn heads kn1 hs1 n
 st:qD p L L1 H H1
def Vy (C CB:Addr) (H0 H:Hp) (p:Addr) (d:Int) (rss:List (List Int)) (ls:List Bool) (L:LA) (kn:Bk) (heads tails:List (List Int)) (m n:Nat) (v:V) (H1:Hp):Prop:=∃ L1 kn1 hs1,X3 C CB H0 H H1 p d rss ls L kn heads tails L1 kn1 hs1 n∧m=90001 - kn1.length∧(v=.non∧jt d kn1 hs1 tails=none∨∃ a w,v=.ref a∧jt d kn1 hs1 tails=some w∧H1 a=some (.lst (w.map V.int)))
theorem KZ (T:Txt K mg t):qE P w K mg base CX0 7 t.f_zb t.fd_zb ["learner","house"] (j0Z K t.C_Learner t.C_Book t.C_House):=by
 refine T.F_zb.ok Qn (fun vs H Q E h=>?_) (fun cdv A outer s H vs Q E hr h=>?_)
 ·obtain ⟨p,d,L,kn,heads,tails,H0,hp,aw,rs,rss,al,ls,rfl,_⟩:=h;rfl
 ·obtain ⟨p,d,L,kn,heads,tails,H0,hp,aw,rs,rss,al,ls,rfl,S,E,hh,Vd,F,htl,htw,bnd,q⟩:=h;have hd1:=Vd.d1;have hd6:=Vd.d6;have smh:∀ {H1 L1 kn1 hs1 n},X3 t.C_Learner t.C_Book H0 H H1 p d rss ls L kn heads tails L1 kn1 hs1 n→zh hs1 tails kn1∧kn1.length≤90000:=fun {H1 L1 kn1 hs1 n} G=>by
   obtain ⟨rows,f,l,_⟩:=G.S.ex;obtain ⟨b1,b2⟩:=bnd _ _ G.S.I G.A.F;have b3:=b2 l.book.nd;exact ⟨⟨b1,htl,fun t ht=>by have:=htw t ht;omega,by omega⟩,b3⟩
  have G0:X3 t.C_Learner t.C_Book H0 H H p d rss ls L kn heads tails L kn heads 0:=⟨S,E,x5.refl F,qD.same (j7.refl _)⟩;refine ⟨_,j3 (jH (i:=2) Qn.nd rfl (Or.inl rfl) (jG))
 (j3 (qV (jH (i:=3) Qn.nd rfl (Or.inl rfl) (qP (pv 0) T.cl_Learner T.me_zG (Qh T) (hr.mono (by decide)) (Zr T) .nil jP)))
 (j3 (y9 PassesOwn.never (jX yc (pv 3) (qf) (je _))
 (j3 (jZ (qY (pv 0) T.cl_Learner T.me_zI (WG T) (hr.mono (by decide)) (j0w T) .nil jP (j0 (qY (pv 1) T.cl_House T.me_zZ (VS T) (hr.mono (by decide)) (UH T) .nil zW (j0 (pv 3) (j4))) (j4))))
 (j3 (Vb (i:=2) Qn.nd rfl (Or.inl rfl) (jG) V7)
 (j6 (qV (jH (i:=3) Qn.nd rfl (Or.inl rfl) (qP (pv 0) T.cl_Learner T.me_zG (Qh T) (hr.mono (by decide)) (Zr T) .nil jP)))))))
 (j6 (jO (pv 2))))),?_⟩
  walk_at "w";refine qp (fun σ' H1=>∃ v m,σ'=[some (.ref p),some (.ref hp),some (.int (0:Nat)),some v]∧Vy t.C_Learner t.C_Book H0 H p d rss ls L kn heads tails m 0 v H1) ?_ ?_
  ·obtain ⟨rows,f,lr,R⟩:=S.ex;obtain ⟨dx,fs,ho,hf⟩:=lr.ob;obtain ⟨sm,hk9⟩:=smh G0;walk_at "w";refine ⟨p,dx,_,rfl,ho,hf.no _ (by decide +kernel),?_⟩;refine ⟨p,d,L,kn,heads,tails,rows,f,rfl,lr,R,sm,S.I.lines1000 sm.hs,fun hq H1 rows1 l1 R1 st1=>?_,fun w hq H1 rows1 f1 a l1 R1 st1 hqn hqv=>?_⟩
   ·walk_at "w";exact ⟨_,_,rfl,L,kn,heads,⟨⟨⟨rows1,_,l1,R1⟩,S.I,S.st⟩,E.step st1,G0.A,st1⟩,rfl,.inl ⟨rfl,hq⟩⟩
   ·walk_at "w";exact ⟨_,_,rfl,L,kn,heads,⟨⟨⟨rows1,_,l1,R1⟩,S.I,S.st⟩,E.step st1,G0.A,st1⟩,rfl,.inr ⟨a,w,rfl,hq,hqv⟩⟩
  rintro σ' H1 ⟨v,m,rfl,hv⟩
  walk_at "w";refine ⟨fun m σ H1=>∃ v n,σ=[some (.ref p),some (.ref hp),some (.int (n:Nat)),some v]∧Vy t.C_Learner t.C_Book H0 H p d rss ls L kn heads tails m n v H1,⟨m,v,0,rfl,hv⟩,?_⟩;clear hv
  rintro m σ H2 ⟨v,n,rfl,L9,kn2,hs2,G,rfl,hv⟩
  obtain ⟨sm,hk9⟩:=smh G;walk_at "w";refine ⟨rfl,?_⟩;walk_at "w";rcases hv with ⟨rfl,hq⟩ | ⟨a,w,rfl,hq,ha⟩
  ·refine jU rfl ?_;walk_at "w";exact q _ _ _ _ _ G.S G.st hq G.A
  ·refine qK rfl ?_;refine ⟨fun σ' H3=>∃ v n m',m' < 90001 - kn2.length∧σ'=[some (.ref p),some (.ref hp),some (.int (n:Nat)),some v]∧Vy t.C_Learner t.C_Book H0 H p d rss ls L kn heads tails m' n v H3,?_,?_⟩
   ·rintro σ' H3 ⟨v,n,m',hm,rfl,hv⟩
    exact ⟨m',hm,v,n,rfl,hv⟩
   obtain ⟨rows2,f2,l2,R2⟩:=G.S.ex;obtain ⟨dx2,fs2,ho2,hf2⟩:=l2.ob;have hh2:=hh.same G.E.same;obtain ⟨hdx,hho⟩:=hh2.ob;obtain ⟨hwo,hno⟩:=G.S.I.qok hq;have hwl:w.length≤900:=by
    obtain ⟨l,hl,t',ht,e,_⟩:=vk hq;have h1:=(G.S.I.lok hl).2;have h2:=htw t' ht;have h3:=sm.hs;rw [e,List.length_append];omega
   walk_at "w";refine ⟨p,dx2,_,rfl,ho2,hf2.no _ (by decide +kernel),?_⟩;walk_at "w";refine ⟨hp,hdx,_,rfl,hho,vc _ _ _ (by decide +kernel) (by decide +kernel) (by decide +kernel),?_⟩;walk_at "w";refine ⟨hp,d,aw,rs,rss,al,ls,a,w,rfl,hh2,Vd.toWays,by have:=Vd.r1;omega,Vd.ll,SqL.of ha,yR hwo hd6,hwl,fun _ H3 s3=>?_,fun nw=>absurd hwo nw⟩;have elit:ls.getD (jF rss 0 w).toNat false=jW rss ls w:=rfl;rw [elit];walk_at "w";refine ⟨p,d,L9,kn2,hs2,tails,w,_,rfl,G.S.same s3,sm,by omega,hd1,hd6,hq,(fun hs Ih=>(bnd _ _ Ih (G.A.F.add w)).1),fun H4 L4 S4 st4=>?_⟩;have G4:X3 t.C_Learner t.C_Book H0 H H4 p d rss ls L kn heads tails L4 _ _ (n+1):=⟨S4,(G.E.step (qD.same s3)).step st4,G.A.ask hq,G.st.trans ((qD.same s3).trans st4)⟩;obtain ⟨sm4,hk4⟩:=smh G4;obtain ⟨rows4,f4,l4,R4⟩:=S4.ex;obtain ⟨dx4,fs4,ho4,hf4⟩:=l4.ob;have hml:∀ b:Bool,90001 - (kn2++[(w,b)]).length < 90001 - kn2.length:=fun b=>by rw [List.length_append,List.length_singleton];omega
   walk_at "w";refine ⟨_,rfl,?_⟩;walk_at "w";refine ⟨_,_,rfl,rfl,?_⟩;walk_at "w";refine qp (fun σ' H3=>∃ v n m',m' < 90001 - kn2.length∧σ'=[some (.ref p),some (.ref hp),some (.int (n:Nat)),some v]∧Vy t.C_Learner t.C_Book H0 H p d rss ls L kn heads tails m' n v H3) ?_ (fun σ' H' z=>z);walk_at "w";refine ⟨p,dx4,_,rfl,ho4,hf4.no _ (by decide +kernel),?_⟩;refine ⟨p,d,L4,_,_,tails,rows4,f4,rfl,l4,R4,sm4,S4.I.lines1000 sm4.hs,fun hq5 H5 rows5 l5 R5 st5=>?_,fun w5 hq5 H5 rows5 f5 a5 l5 R5 st5 hqn5 hqv5=>?_⟩
   ·walk_at "w";exact ⟨_,n+1,_,hml _,rfl,L4,_,_,⟨⟨⟨rows5,_,l5,R5⟩,S4.I,S4.st⟩,G4.E.step st5,G4.A,G4.st.trans st5⟩,rfl,.inl ⟨rfl,hq5⟩⟩
   ·walk_at "w";exact ⟨_,n+1,_,hml _,rfl,L4,_,_,⟨⟨⟨rows5,_,l5,R5⟩,S4.I,S4.st⟩,G4.E.step st5,G4.A,G4.st.trans st5⟩,rfl,.inr ⟨a5,w5,rfl,hq5,hqv5⟩⟩
theorem xh:jM ["house","learner","answered","told","word"] ["house"] (j2 QP):=⟨rfl,rfl,rfl,by decide +kernel,rfl,by decide +kernel,by decide +kernel⟩
theorem j1C (T:Txt K mg t):jd K t.fd_zq ["house"] []:=T.F_zq.binds fun _ _ _ _ _ _ us hl=>by obtain ⟨_,rfl⟩:=zf hl;rfl
structure YC (C CB:Addr) (H0 H:Hp) (p:Addr) (d:Int) (rss:List (List Int)) (ls:List Bool) (ta:Addr) (L:LA) (kn:Bk) (heads tails:List (List Int)) (tA:List Addr) (told:List (List Int)) (n:Nat):Prop where
 S:LS C CB H p d L kn heads tails
 E:Env H0 H p L
 F:v5 rss ls kn
 hq:jt d kn heads tails=none
 ti:tails.length≤1+22 * told.length
 tw:∀ t∈tails,t.length≤22
 P:yP d rss ls kn heads tails told n
 bt:∃ bf,told.length≤bf∧bf≤heads.length∧(bf=0∨kG d kn heads tails bf)
 ht:H ta=some (.lst (tA.map V.ref))
 hw:LsAt V.int H tA told
 n0:H0 ta=none
 nt:ta∉tA
 out:∀ b∈ta :: tA,b∉yq p L
def LsV (C CB:Addr) (H0:Hp) (p:Addr) (d:Int) (rss:List (List Int)) (ls:List Bool) (ta:Addr) (m n:Nat) (v:V) (H:Hp):Prop:=∃ L kn heads tails tA told,YC C CB H0 H p d rss ls ta L kn heads tails tA told n∧m=13 - told.length ∧
 (v=.non∧(∀ w,jD d w→jW (jR d kn heads tails) (jf kn heads) w=jW rss ls w)∨∃ x w,v=.ref x∧x6 d (jR d kn heads tails) rss (jf kn heads) ls 0 0 w∧H x=some (.lst (w.map V.int))∧x∉yq p L∧x∉ta :: tA)
theorem Yr {d:Int} {rss:List (List Int)} {ls:List Bool} {kept:List Int} {tails:List (List Int)} (Kd:zZ d rss ls kept) (V:zA d rss ls) (h12:rss.length≤12) (ht:tails.length≤300):∀ kn' hs,LI d kn' hs tails→v5 rss ls kn'→hs.length≤12∧((kn'.map Prod.fst).Nodup→kn'.length≤90000):=fun kn' hs I F=>by
 have h1:=I.heads_le F Kd;have h2:=Kd.rooms V.toWays V.r1;refine ⟨by omega,fun nd=>?_⟩;have h3:=I.known nd;rw [yI] at h3;have hd:=V.d6;have h4:hs.length * (d.toNat+1)≤12 * 7:=Nat.mul_le_mul (by omega) (by omega);have h5:=Nat.mul_le_mul h4 ht;omega
theorem YC.few {C CB:Addr} {H0 H:Hp} {p:Addr} {d:Int} {rss:List (List Int)} {ls:List Bool} {ta:Addr} {L:LA} {kn:Bk} {heads tails:List (List Int)} {tA:List Addr} {told:List (List Int)} {n:Nat} (J:YC C CB H0 H p d rss ls ta L kn heads tails tA told n) {kept:List Int} (Kd:zZ d rss ls kept) (V:zA d rss ls) (h12:rss.length≤12) :
  y7 d kn heads tails∧told.length < heads.length∧heads.length≤kept.length∧heads.length≤12∧kn.length≤90000∧tails.length≤265∧zh heads tails kn:=by
 have Cl:=vf J.S.st J.hq;have h1:=J.S.I.heads_le J.F Kd;have h2:=Kd.rooms V.toWays V.r1;obtain ⟨bf,b1,b2,b3⟩:=J.bt;have h3:bf < heads.length:=by
  rcases b3 with h | T0
  ·have:=List.length_pos_of_mem J.S.I.mem0;omega
  ·exact T0.more J.S.I Cl
 have hti:=J.ti;obtain ⟨rows,f,l,_⟩:=J.S.ex;have h4:=(Yr (tails:=tails) Kd V h12 (by omega) _ _ J.S.I J.F).2 l.book.nd;exact ⟨Cl,by omega,h1,by omega,h4,by omega,⟨by omega,by omega,fun t ht=>by have:=J.tw t ht;omega,by omega⟩⟩
theorem yP.fits {d:Int} {rss:List (List Int)} {ls:List Bool} {kn:Bk} {heads tails told:List (List Int)} {n:Nat} (p:yP d rss ls kn heads tails told n):v5 rss ls kn:=by
 induction p with
 | start=>exact v5.start _ _
 | ask _ _ ih=>exact ih.add _
 | tell _ _ _ ih=>exact ih.add _
theorem yP.len {d:Int} {rss:List (List Int)} {ls:List Bool} {kn:Bk} {heads tails told:List (List Int)} {n:Nat} (p:yP d rss ls kn heads tails told n):n+told.length=kn.length:=by
 induction p with
 | start=>rfl
 | ask _ _ ih=>rw [List.length_append,List.length_singleton];omega
 | tell _ _ _ ih=>rw [List.length_append,List.length_append,List.length_singleton,List.length_singleton];omega
def VF (d:Int) (rss:List (List Int)) (ls:List Bool) (kn:Bk) (heads tails:List (List Int)):Prop:=jt d kn heads tails=none∧∀ w,jD d w→jW (jR d kn heads tails) (jf kn heads) w=jW rss ls w
theorem yP.det {d:Int} {rss:List (List Int)} {ls:List Bool} {kn kn':Bk} {heads tails told heads' tails' told':List (List Int)} {n n':Nat} (p:yP d rss ls kn heads tails told n) (p':yP d rss ls kn' heads' tails' told' n') (hl:kn.length=kn'.length):kn=kn'∧heads=heads'∧tails=tails'∧told=told'∧n=n':=by
 induction p generalizing kn' heads' tails' told' n' with
 | start =>
  cases p' with
  | start=>exact ⟨rfl,rfl,rfl,rfl,rfl⟩
  | ask _ _=>simp at hl
  | tell _ _ _=>simp at hl
 | ask q hq ih =>
  rw [List.length_append,List.length_singleton] at hl;cases p' with
  | start=>simp at hl
  | ask q' hq' =>
   rw [List.length_append,List.length_singleton] at hl;obtain ⟨rfl,rfl,rfl,rfl,rfl⟩:=ih q' (by omega);rw [hq] at hq';cases hq';exact ⟨rfl,rfl,rfl,rfl,rfl⟩
  | tell q' hq' _ =>
   rw [List.length_append,List.length_singleton] at hl;obtain ⟨rfl,rfl,rfl,rfl,rfl⟩:=ih q' (by omega);rw [hq] at hq';cases hq'
 | tell q hq P ih =>
  rw [List.length_append,List.length_singleton] at hl;cases p' with
  | start=>simp at hl
  | ask q' hq' =>
   rw [List.length_append,List.length_singleton] at hl;obtain ⟨rfl,rfl,rfl,rfl,rfl⟩:=ih q' (by omega);rw [hq] at hq';cases hq'
  | tell q' hq' P' =>
   rw [List.length_append,List.length_singleton] at hl;obtain ⟨rfl,rfl,rfl,rfl,rfl⟩:=ih q' (by omega);cases P.uniq P';exact ⟨rfl,rfl,rfl,rfl,rfl⟩
theorem yP.stop {d:Int} {rss:List (List Int)} {ls:List Bool} {kn kn':Bk} {heads tails told heads' tails' told':List (List Int)} {n n':Nat} (p:yP d rss ls kn heads tails told n) (e:VF d rss ls kn heads tails) (p':yP d rss ls kn' heads' tails' told' n'):kn'.length≤kn.length:=by
 induction p' with
 | start=>simp
 | ask q hq ih =>
  rw [List.length_append,List.length_singleton];rcases Nat.lt_or_ge ((_:Bk).length) kn.length with h | h
  ·exact h
  ·obtain ⟨rfl,rfl,rfl,rfl,rfl⟩:=p.det q (by omega);rw [e.1] at hq;cases hq
 | tell q hq P ih =>
  rw [List.length_append,List.length_singleton];rcases Nat.lt_or_ge ((_:Bk).length) kn.length with h | h
  ·exact h
  ·obtain ⟨rfl,rfl,rfl,rfl,rfl⟩:=p.det q (by omega);exact absurd (e.2 _ P.ok) P.un
theorem yP.one {d:Int} {rss:List (List Int)} {ls:List Bool} {kn kn':Bk} {heads tails told heads' tails' told':List (List Int)} {n n':Nat} (p:yP d rss ls kn heads tails told n) (e:VF d rss ls kn heads tails) (p':yP d rss ls kn' heads' tails' told' n') (e':VF d rss ls kn' heads' tails'):kn=kn'∧heads=heads'∧tails=tails'∧told=told'∧n=n':=p.det p' (Nat.le_antisymm (p'.stop e' p) (p.stop e p'))
theorem VX {d:Int} {rss:List (List Int)} {ls:List Bool} (W:Ways d rss) (h0:0 < rss.length):∃ kept,zZ d rss ls kept:=by
 classical
 have key:∀ l:List Int,(∀ e∈l,∃ w,jD d w∧jF rss 0 w=e)→∃ kept:List Int,(∀ k∈kept,∃ w,jD d w∧jF rss 0 w=k)∧kept.Pairwise (fun a b=>¬ qz d rss ls a b)∧∀ e∈l,∃ k∈kept,qz d rss ls k e:=by
  intro l
  induction l with
  | nil=>exact fun _=>⟨[],by simp,List.Pairwise.nil,by simp⟩
  | cons e l ih =>
   intro h;obtain ⟨kept,h1,h2,h3⟩:=ih fun x hx=>h x (List.mem_cons_of_mem _ hx)
   by_cases hk:∃ k∈kept,qz d rss ls k e
   ·refine ⟨kept,h1,h2,fun x hx=>?_⟩;rcases List.mem_cons.mp hx with rfl | hx
    ·exact hk
    ·exact h3 x hx
   ·refine ⟨e :: kept,fun k hk'=>?_,List.pairwise_cons.mpr ⟨fun k hk' z=>hk ⟨k,hk',z.symm⟩,h2⟩,fun x hx=>?_⟩
    ·rcases List.mem_cons.mp hk' with rfl | hk'
     ·exact h k List.mem_cons_self
     ·exact h1 k hk'
    ·rcases List.mem_cons.mp hx with rfl | hx
     ·exact ⟨x,List.mem_cons_self,fun _ _=>rfl⟩
     ·obtain ⟨k,hk',z⟩:=h3 x hx;exact ⟨k,List.mem_cons_of_mem _ hk',z⟩
 obtain ⟨kept,h1,h2,h3⟩:=key (((List.range rss.length).map fun (i:Nat)=>(i:Int)).filter fun k=>decide (∃ w,jD d w∧jF rss 0 w=k)) fun e he=>of_decide_eq_true (List.mem_filter.mp he).2;refine ⟨kept,h1,h2,fun w hw=>?_⟩;obtain ⟨w0,w1⟩:=q0 W hw (Int.le_refl 0) (by omega);exact h3 _ (List.mem_filter.mpr ⟨List.mem_map.mpr ⟨(jF rss 0 w).toNat,List.mem_range.mpr (by omega),by omega⟩,decide_eq_true ⟨w,hw,rfl⟩⟩)
theorem vd {d:Int} {kn:Bk} {tails:List (List Int)} (bnd:∀ hs,LI d kn hs tails→hs.length≤400):∀ (n:Nat) (hs:List (List Int)),LI d kn hs tails→401≤n+hs.length→LI d kn (ya d kn tails n hs) tails∧(jt d kn (ya d kn tails n hs) tails≠none∨qB d kn (ya d kn tails n hs) tails=none)
 | 0,hs,I,h=>by have:=bnd hs I;omega
 | n+1,hs,I,h=>by
  by_cases hc:jt d kn hs tails≠none∨qB d kn hs tails=none
  ·rw [zO hc];exact ⟨I,hc⟩
  ·have hq:jt d kn hs tails=none:=Classical.not_not.mp fun z=>hc (.inl z);cases hlo:qB d kn hs tails with
   | none=>exact absurd (.inr hlo) hc
   | some e =>
    rw [vC hq hlo];exact vd bnd n (hs++[e]) (I.grown hq hlo) (by rw [List.length_append,List.length_singleton];omega)
structure LesInv (d:Int) (kn:Bk) (heads tails told:List (List Int)):Prop where
 I:LI d kn heads tails
 st:jt d kn heads tails≠none∨qB d kn heads tails=none
 ti:tails.length≤1+22 * told.length
 tw:∀ t∈tails,t.length≤22
 bt:∃ bf,told.length≤bf∧bf≤heads.length∧(bf=0∨kG d kn heads tails bf)
 nd:(kn.map Prod.fst).Nodup
theorem yP.inv {d:Int} {rss:List (List Int)} {ls:List Bool} {kn:Bk} {heads tails told:List (List Int)} {n:Nat} (p:yP d rss ls kn heads tails told n) {kept:List Int} (Kd:zZ d rss ls kept) (V:zA d rss ls) (h12:rss.length≤12):LesInv d kn heads tails told:=by
 have hkr:=Kd.rooms V.toWays V.r1;have snoc:∀ {kn:Bk} {w:List Int} (b:Bool),(kn.map Prod.fst).Nodup→saidO kn w=none→((kn++[(w,b)]).map Prod.fst).Nodup:=fun b nd hno=>by
  rw [List.map_append];exact zm nd (x9 hno)
 induction p with
 | start =>
  refine ⟨LI.start d,.inl fun z=>?_,by simp,fun t ht=>by simp at ht;simp [ht],⟨0,by simp,Nat.zero_le _,.inl rfl⟩,by simp⟩;obtain ⟨b,hb⟩:=ql.mp z [] (qF.mpr ⟨[],by simp,.inl rfl⟩) [] (by simp);simp [saidO] at hb
 | @ask kn heads tails told n w q hq ih =>
  have Fn:=q.fits.add w;have I1:=ih.I.note (jW rss ls w) hq;have h0:=List.length_pos_of_mem ih.I.mem0;obtain ⟨g1,g2⟩:=vd (fun hs Ih=>by have:=Ih.heads_le Fn Kd;omega) 400 _ I1 (by omega);obtain ⟨gr,egr⟩:=yp d (kn++[(w,jW rss ls w)]) tails heads;obtain ⟨bf,b1,b2,b3⟩:=ih.bt;refine ⟨g1,g2,ih.ti,ih.tw,⟨bf,b1,?_,?_⟩,snoc _ ih.nd (ih.I.qok hq).2⟩
  ·rw [egr,List.length_append];omega
  ·rcases b3 with h | T0
   ·exact .inl h
   ·exact .inr (T0.step (yp _ _ _ _) (fun u b h=>qd h) (fun t h=>h))
 | @tell kn heads tails told n w q hq P ih =>
  have F:=q.fits;have Fn:=F.add w;have Cl:=vf ih.st hq;have hne:jW (jR d kn heads tails) (jf kn heads) w≠jW rss ls w:=P.un;have hgu:jW (jR d kn heads tails) (jf kn heads) w=!jW rss ls w:=by
   revert hne
   cases jW (jR d kn heads tails) (jf kn heads) w <;> cases jW rss ls w <;> simp
  have hno:saidO kn w=none:=by
   cases e:saidO kn w with
   | none=>rfl
   | some b=>exact absurd ((ih.I.says Cl e).trans (F w b e).symm) hne
  have h0:=List.length_pos_of_mem ih.I.mem0;have h1:=ih.I.heads_le F Kd;have VJ:=ih.I.valid Cl V.d1 V.d6 (by omega);have eG:(jR d kn heads tails).length=heads.length:=by unfold jR;rw [List.length_map]
  have hw22:w.length≤22:=by
   have h1:=xY VJ.toWays V.toWays (Int.le_refl 0) (by have:=VJ.r1;omega) (Int.le_refl 0) (by have:=V.r1;omega) P.ok P.un fun u hu hul=>P.least u hu (vV hul);rw [eG] at h1;omega
  have I1:=ih.I.told (jW rss ls w) P.ok hno;obtain ⟨g1,g2⟩:=vd (fun hs Ih=>by have:=Ih.heads_le Fn Kd;omega) 400 _ I1 (by omega);obtain ⟨gr,egr⟩:=yp d (kn++[(w,jW rss ls w)]) (yW tails w) heads;obtain ⟨bf,b1,b2,b3⟩:=ih.bt;have h3:bf < heads.length:=by
   rcases b3 with h | T0
   ·omega
   ·exact T0.more ih.I Cl
  obtain ⟨rr,er,hrl⟩:=yf (tails:=tails) (w:=w) w.length;have hti:=ih.ti;refine ⟨g1,g2,?_,fun t ht=>?_,⟨heads.length,?_,?_,.inr ?_⟩,snoc _ ih.nd hno⟩
  ·rw [List.length_append,List.length_singleton];unfold yW;rw [er,List.length_append];omega
  ·rcases zE ht with h | ⟨j,_,_,h⟩
   ·exact ih.tw t h
   ·rw [h,List.length_drop];omega
  ·rw [List.length_append,List.length_singleton];omega
  ·rw [egr,List.length_append];omega
  ·exact (kG.new ih.I Cl P.ok hno hgu).step (yp _ _ _ _) (fun u b h=>h) (fun t h=>h)
def wy (K:PySem.W.Frag) (C CB CH:Addr):Sp:=fun vs H Q _=>∃ (hp:Addr) (d:Int) (aw:Addr) (rs:List Addr) (rss:List (List Int)) (al:Addr) (ls:List Bool) (kept:List Int),vs=[.ref hp]∧qX CH H hp d aw rs rss al ls∧zA d rss ls∧zZ d rss ls kept∧rss.length≤12 ∧
 (∀ H' tp gp gw gs gl ta tA kn heads tails told (n:Nat),j7 H H'→H' tp=some (.tup [.ref gp,.ref ta,.int (n:Nat)])→qX CH H' gp d gw gs (jR d kn heads tails) gl (jf kn heads)→zA d (jR d kn heads tails) (jf kn heads)→H' ta=some (.lst (tA.map V.ref))→LsAt V.int H' tA told→LI d kn heads tails→yP d rss ls kn heads tails told n→y7 d kn heads tails →
  (∀ w,jD d w→jW (jR d kn heads tails) (jf kn heads) w=jW rss ls w)→told.length < heads.length→heads.length≤kept.length→(kn.map Prod.fst).Nodup→kn.length≤90000→Q (.ref tp) H')
theorem j0E (T:Txt K mg t):qE P w K mg base CX0 10 t.f_zq t.fd_zq ["house"] (wy K t.C_Learner t.C_Book t.C_House):=by
 refine T.F_zq.ok xh (fun vs H Q E h=>?_) (fun cdv A outer s H vs Q E hr h=>?_)
 ·obtain ⟨hp,d,aw,rs,rss,al,ls,kept,rfl,_⟩:=h;rfl
 ·obtain ⟨hp,d,aw,rs,rss,al,ls,kept,rfl,hh,Vd,Kd,h12,q⟩:=h;have hd1:=Vd.d1;have hd6:=Vd.d6;obtain ⟨hdx,hho⟩:=hh.ob;refine ⟨_,j3 (jH (i:=1) xh.nd rfl (Or.inl rfl) (xI T.mk_Learner (Wi T) (hr.mono (by decide)) rfl T.mg_Learner (j1D T) .nil jP (j0 (jJ K (pv 0) rfl) (j4))))
 (j3 (jH (i:=2) xh.nd rfl (Or.inl rfl) (jK (KZ T) (hr.mono (by decide)) rfl T.mg_zb T.F_zb.kp (WO T) .nil jP (j0 (pv 1) (j0 (pv 0) (j4)))))
 (j3 (jH (i:=3) xh.nd rfl (Or.inl rfl) (jg (j4)))
 (j3 (qV (jH (i:=4) xh.nd rfl (Or.inl rfl) (jK (K8 T) (hr.mono (by decide)) rfl T.mg_za T.F_za.kp (j08 T) .nil zW (j0 (qP (pv 1) T.cl_Learner T.me_zK (Yh T) (hr.mono (by decide)) (X1 T) .nil jP) (j0 (pv 0) (j4))))))
 (j3 (y9 PassesOwn.never (jX yc (pv 4) (qf) (je _))
 (j3 (jZ (qY (pv 1) T.cl_Learner T.me_zL (W7 T) (hr.mono (by decide)) (j17 T) .nil jP (j0 (pv 4) (j0 (qY (pv 0) T.cl_House T.me_zZ (VS T) (hr.mono (by decide)) (UH T) .nil zW (j0 (pv 4) (j4))) (j4)))))
 (j3 (jZ (qc K PySem.F.plainAttrs_list PySem.F.slot_list_append PySem.F.type_list_append jj (pv 3) (j0 (pv 4) (j4))))
 (j3 (Vb (i:=2) xh.nd rfl (Or.inl rfl) (jK (KZ T) (hr.mono (by decide)) rfl T.mg_zb T.F_zb.kp (WO T) .nil jP (j0 (pv 1) (j0 (pv 0) (j4)))) V7)
 (j6 (qV (jH (i:=4) xh.nd rfl (Or.inl rfl) (jK (K8 T) (hr.mono (by decide)) rfl T.mg_za T.F_za.kp (j08 T) .nil zW (j0 (qP (pv 1) T.cl_Learner T.me_zK (Yh T) (hr.mono (by decide)) (X1 T) .nil jP) (j0 (pv 0) (j4)))))))))))
 (j6 (jO (vW (j0 (qP (pv 1) T.cl_Learner T.me_zK (Yh T) (hr.mono (by decide)) (X1 T) .nil jP) (j0 (pv 3) (j0 (pv 2) (j4))))))))))),?_⟩
  walk_at "w";refine ⟨_,rfl,hp,_,hdx,_,_,rfl,hho,T.cl_House,T.na_House_doors,yd _ _ _,?_⟩;walk_at "w";intro lp ldx e1 e2 e3;have sm:j7 H (upd (upd H ldx (.own lp)) lp (.ins t.C_Learner ldx [])):=(j7.upd_new e2).trans (j7.upd_new (by rw [j5 (Ne.symm e3)];exact e1));refine ⟨lp,ldx,d,rfl,j1,hd1,hd6,fun H1 L l1 keep1 new1=>⟨rfl,?_⟩⟩;have hs1:j7 H H1:=fun b o e=>keep1 b o (sm b o e) (jA e e1);have out1:∀ b∈yq lp L,H b=none:=fun b hb=>by
   by_cases z:b=lp
   ·rw [z];exact e1
   ·exact sm.free (new1 b hb z)
  have S1:LS t.C_Learner t.C_Book H1 lp d L [] [[]] [[]]:=by
   have R:jv d [] [] [[]] [] 0:=⟨rfl,fun k r l h=>by simp at h,fun k r h=>by omega,Nat.le_refl _⟩;have hq:jt d [] [[]] [[]]≠none:=fun z=>by
    obtain ⟨b,hb⟩:=ql.mp z [] (qF.mpr ⟨[],by simp,.inl rfl⟩) [] (by simp);simp [saidO] at hb
   exact ⟨⟨_,_,l1,R.head []⟩,LI.start d,.inl hq⟩
  clear keep1 new1 sm;have E1:Env H H1 lp L:=⟨hs1,out1⟩;walk_at "w";refine ⟨lp,d,L,[],[[]],[[]],H,hp,aw,rs,rss,al,ls,rfl,S1,E1,hh,Vd,v5.start _ _,by simp,fun t ht=>by simp at ht;simp [ht],fun kn' hs I F=>?_,fun H2 L9 kn2 hs2 n S2 st2 hq2 A2=>?_⟩
  ·obtain ⟨b1,b2⟩:=Yr (tails:=[[]]) Kd Vd h12 (by simp) kn' hs I F;exact ⟨by omega,b2⟩
  have E2:=E1.step st2;have P2:yP d rss ls kn2 hs2 [[]] [] n:=by
   have:=A2.path [] 0 yP.start
   rwa [Nat.zero_add] at this
  clear S1 l1 E1 hs1 out1;walk_at "w";refine ⟨Nat.zero_le _,fun ta hta=>?_⟩;have s3:j7 H2 (upd H2 ta (.lst [])):=j7.upd_new hta;have ta3:(upd H2 ta (.lst [])) ta=some (.lst (([]:List Addr).map V.ref)):=j1;obtain ⟨rows2,f2,l2,R2⟩:=S2.ex;have nta:=l2.notOwn hta;generalize upd H2 ta (.lst [])=H3 at s3 ta3 ⊢;have J3:YC t.C_Learner t.C_Book H H3 lp d rss ls ta L9 kn2 hs2 [[]] [] [] n:=⟨S2.same s3,E2.keep fun b o _ e=>s3 b o e,A2.F,hq2,by simp,fun t ht=>by simp at ht;simp [ht],P2,⟨0,by simp,Nat.zero_le _,.inl rfl⟩,ta3,⟨rfl,fun i b v h1 h2=>by simp at h1⟩,E2.same.free hta,by simp,fun b hb=>by rw [List.mem_singleton.mp hb];exact nta⟩;clear S2 l2 R2 E2 st2;walk_at "w";refine qp (fun σ' H4=>∃ v m,σ'=[some (.ref hp),some (.ref lp),some (.int (n:Nat)),some (.ref ta),some v]∧LsV t.C_Learner t.C_Book H lp d rss ls ta m n v H4) ?_ ?_
  ·obtain ⟨Cl,htl,hhk,hh12,hk9,htt,smJ⟩:=J3.few Kd Vd h12;obtain ⟨rows,f,lr,R⟩:=J3.S.ex;obtain ⟨dx,fs,hob,hf⟩:=lr.ob;have V3:=J3.S.I.valid Cl hd1 hd6 smJ.hs;walk_at "w";refine ⟨lp,dx,_,rfl,hob,hf.no _ (by decide +kernel),?_⟩;refine ⟨lp,d,_,_,_,_,rfl,J3.S,smJ,hd1,hd6,Cl,fun H4 gp gw gs gl S4 st4 hh4 new4=>?_⟩;have E4:=J3.E.step st4;have ta4:=st4.kp _ _ (fun z=>J3.out ta (by simp) (jx z)) J3.ht;have J4:YC t.C_Learner t.C_Book H H4 lp d rss ls ta L9 kn2 hs2 [[]] [] [] n:=⟨S4,E4,J3.F,J3.hq,J3.ti,J3.tw,J3.P,J3.bt,ta4,⟨rfl,fun i b v h1 h2=>by simp at h1⟩,J3.n0,J3.nt,J3.out⟩;walk_at "w";refine ⟨gp,d,gw,gs,_,gl,_,hp,d,aw,rs,rss,al,ls,rfl,hh4,hh.same E4.same,V3,Vd,fun _=>⟨fun H5 s5 heq=>?_,fun H5 x w s5 hx hxn P hwl=>?_⟩,fun z=>absurd rfl z⟩
   ·walk_at "w";exact ⟨_,_,rfl,_,_,_,_,_,_,⟨J4.S.same s5,J4.E.keep fun b o _ e=>s5 b o e,J4.F,J4.hq,J4.ti,J4.tw,J4.P,J4.bt,s5 _ _ J4.ht,J4.hw.keep fun b _ o e=>s5 b o e,J4.n0,J4.nt,J4.out⟩,rfl,.inl ⟨rfl,heq⟩⟩
   ·obtain ⟨rows4,f4,l4,R4⟩:=S4.ex;walk_at "w";exact ⟨_,_,rfl,_,_,_,_,_,_,⟨J4.S.same s5,J4.E.keep fun b o _ e=>s5 b o e,J4.F,J4.hq,J4.ti,J4.tw,J4.P,J4.bt,s5 _ _ J4.ht,J4.hw.keep fun b _ o e=>s5 b o e,J4.n0,J4.nt,J4.out⟩,rfl,.inr ⟨x,w,rfl,P,hx,l4.notOwn hxn,fun z=>by
     rw [List.mem_singleton.mp z,J4.ht] at hxn;cases hxn⟩⟩
  clear J3 s3 ta3 nta hta P2 A2 hq2
  rintro σ' H4 ⟨v,m,rfl,hv⟩
  walk_at "w";refine ⟨fun m σ H4=>∃ v n,σ=[some (.ref hp),some (.ref lp),some (.int (n:Nat)),some (.ref ta),some v]∧LsV t.C_Learner t.C_Book H lp d rss ls ta m n v H4,⟨m,v,n,rfl,hv⟩,?_⟩;clear hv
  rintro m σ H5 ⟨v,n,rfl,L5,kn,heads,tails,tA,told,J,rfl,hv⟩
  obtain ⟨Cl,htl,hhk,hh12,hk9,htt,smJ⟩:=J.few Kd Vd h12;have VJ:=J.S.I.valid Cl hd1 hd6 smJ.hs;have eG:(jR d kn heads tails).length=heads.length:=by unfold jR;rw [List.length_map]
  walk_at "w";refine ⟨rfl,?_⟩;walk_at "w";rcases hv with ⟨rfl,heq⟩ | ⟨x,w,rfl,P,hx,nx,nxt⟩
  ·refine jU rfl ?_;obtain ⟨rows,f,lr,R⟩:=J.S.ex;obtain ⟨dx,fs,hob,hf⟩:=lr.ob;walk_at "w";refine ⟨lp,dx,_,rfl,hob,hf.no _ (by decide +kernel),?_⟩;refine ⟨lp,d,_,_,_,_,rfl,J.S,smJ,hd1,hd6,Cl,fun H6 gp gw gs gl S6 st6 hh6 new6=>?_⟩;have E6:=J.E.step st6;walk_at "w";refine ⟨by show 3≤sizeLine;decide,fun tp htp=>?_⟩;have s7:j7 H6 (upd H6 tp (.tup [.ref gp,.ref ta,.int (n:Nat)])):=j7.upd_new htp;have kt:∀ b∈ta :: tA,∀ o,H5 b=some o→H6 b=some o:=fun b hb o e=>st6.kp b o (fun z=>J.out b hb (jx z)) e;exact q _ tp gp gw gs gl ta tA kn heads tails told n (E6.same.trans s7) j1 (hh6.same s7) VJ (s7 _ _ (kt ta (by simp) _ J.ht)) (J.hw.keep fun b hb o e=>s7 _ _ (kt b (List.mem_cons_of_mem _ hb) o e)) J.S.I J.P Cl heq htl hhk lr.book.nd hk9
  ·refine qK rfl ?_;refine ⟨fun σ' H6=>∃ v n m',m' < 13 - told.length∧σ'=[some (.ref hp),some (.ref lp),some (.int (n:Nat)),some (.ref ta),some v]∧LsV t.C_Learner t.C_Book H lp d rss ls ta m' n v H6,?_,?_⟩
   ·rintro σ' H6 ⟨v,n,m',hm,rfl,hv⟩
    exact ⟨m',hm,v,n,rfl,hv⟩
   obtain ⟨rows,f,lr,R⟩:=J.S.ex;obtain ⟨dx,fs,hob,hf⟩:=lr.ob;have hh5:=hh.same J.E.same;obtain ⟨hdx5,hho5⟩:=hh5.ob;have hwo:=P.ok;have hrr:=Vd.r1;have hw22:w.length≤22:=by
    have h1:=xY VJ.toWays Vd.toWays (Int.le_refl 0) (by have:=VJ.r1;omega) (Int.le_refl 0) (by omega) hwo P.un fun u hu hul=>P.least u hu (vV hul);rw [eG] at h1;omega
   have hne:jW (jR d kn heads tails) (jf kn heads) w≠jW rss ls w:=P.un;have hgu:jW (jR d kn heads tails) (jf kn heads) w=!jW rss ls w:=by
    revert hne
    cases jW (jR d kn heads tails) (jf kn heads) w <;> cases jW rss ls w <;> simp
   have hno:saidO kn w=none:=by
    cases e:saidO kn w with
    | none=>rfl
    | some b=>exact absurd ((J.S.I.says Cl e).trans (J.F w b e).symm) hne
   have Fn:=J.F.add w;obtain ⟨rr,er,hrl⟩:=yf (tails:=tails) (w:=w) w.length;have hti:=J.ti;have hell:(yW tails w).length≤1+22 * (told++[w]).length:=by
    rw [List.length_append,List.length_singleton];unfold yW;rw [er,List.length_append];omega
   have hel3:(yW tails w).length≤300:=by
    rw [List.length_append,List.length_singleton] at hell;omega
   have hew:∀ t∈yW tails w,t.length≤22:=fun t ht=>by
    rcases zE ht with h | ⟨j,_,_,h⟩
    ·exact J.tw t h
    ·rw [h,List.length_drop];omega
   walk_at "w";refine ⟨lp,dx,_,rfl,hob,hf.no _ (by decide +kernel),?_⟩;walk_at "w";refine ⟨hp,hdx5,_,rfl,hho5,vc _ _ _ (by decide +kernel) (by decide +kernel) (by decide +kernel),?_⟩;walk_at "w";refine ⟨hp,d,aw,rs,rss,al,ls,x,w,rfl,hh5,Vd.toWays,by omega,Vd.ll,SqL.of hx,yR hwo hd6,by omega,fun _ H6 s6=>?_,fun nw=>absurd hwo nw⟩;have elit:ls.getD (jF rss 0 w).toNat false=jW rss ls w:=rfl;rw [elit];walk_at "w";refine ⟨lp,d,L5,kn,heads,tails,x,w,jW rss ls w,rfl,J.S.same s6,⟨smJ.hs,by omega,fun t ht=>by have:=hew t ht;omega,smJ.ks⟩,by omega,by omega,hd1,hd6,Cl,s6 _ _ hx,nx,hwo,by omega,hno,hgu,(fun hs Ih=>by have:=Ih.heads_le Fn Kd;have:=Kd.rooms Vd.toWays Vd.r1;omega),fun H7 L7 S7 st7=>?_⟩;have nx':∀ b,b∈ta :: (tA++[x])→b∉yq lp L5∧∃ o,H6 b=some o:=fun b hb=>by
    simp only [List.mem_cons,List.mem_append,List.not_mem_nil,or_false] at hb;rcases hb with h | h | h
    ·rw [h];exact ⟨J.out ta (by simp),_,s6 _ _ J.ht⟩
    ·obtain ⟨_,_,e⟩:=J.hw.mem h;exact ⟨J.out b (List.mem_cons_of_mem _ h),_,s6 _ _ e⟩
    ·rw [h];exact ⟨nx,_,s6 _ _ hx⟩
   have k7:∀ b,b∈ta :: (tA++[x])→∀ o,H6 b=some o→H7 b=some o:=fun b hb o e=>st7.kp b o (fun z=>(nx' b hb).1 (jx z)) e;have out7:∀ b,b∈ta :: (tA++[x])→b∉yq lp L7:=fun b hb z=>by
    obtain ⟨h1,o,h2⟩:=nx' b hb;rcases st7.own b z with h | h
    ·exact h1 h
    ·rw [h] at h2;cases h2
   have ta7:=k7 ta (by simp) _ (s6 _ _ J.ht);have x7:=k7 x (by simp) _ (s6 _ _ hx);have hw7:LsAt V.int H7 tA told:=J.hw.keep fun b hb o e=>k7 b (by simp [hb]) o (s6 _ _ e);have E7:=(J.E.step (qD.same s6)).step st7;have lA:tA.length=told.length:=J.hw.len;walk_at "w";refine ⟨.inl ⟨rfl,_,SqL.of ta7⟩,?_⟩;walk_at "w";refine ⟨ta,_,_,rfl,rfl,ta7,qj (by rw [List.length_map];omega),?_⟩;have nxa:x≠ta:=fun z=>nxt (by rw [z];simp);have k8:∀ b o,b≠ta→H7 b=some o→upd H7 ta (.lst (tA.map V.ref++[.ref x])) b=some o:=fun b o hb e=>by rw [j5 hb];exact e
   have ta8:upd H7 ta (.lst (tA.map V.ref++[.ref x])) ta=some (.lst ((tA++[x]).map V.ref)):=by rw [j1,List.map_append];rfl
   generalize upd H7 ta (.lst (tA.map V.ref++[.ref x]))=H8 at k8 ta8 ⊢;have S8:LS t.C_Learner t.C_Book H8 lp d L7 _ _ _:=S7.keep fun b hb o e=>k8 b o (fun z=>out7 ta (by simp) (z ▸ hb)) e;have E8:Env H H8 lp L7:=E7.keep fun b o h0 e=>k8 b o (fun z=>by rw [z,J.n0] at h0;cases h0) e;have hw8:LsAt V.int H8 (tA++[x]) (told++[w]):=LsAt.snoc (hw7.keep fun b hb o e=>k8 b o (fun z=>J.nt (z ▸ hb)) e) (k8 _ _ nxa x7);have nt8:ta∉tA++[x]:=fun z=>by
    rcases List.mem_append.mp z with h | h
    ·exact J.nt h
    ·exact nxa (List.mem_singleton.mp h).symm
   walk_at "w";refine ⟨_,rfl,?_⟩;walk_at "w";refine ⟨lp,d,L7,_,_,yW tails w,H,hp,aw,rs,rss,al,ls,rfl,S8,E8,hh,Vd,Fn,by omega,fun t ht=>by have:=hew t ht;omega,fun kn' hs I F=>?_,fun H9 L9 kn9 hs9 k S9 st9 hq9 A9=>?_⟩
   ·obtain ⟨b1,b2⟩:=Yr (tails:=yW tails w) Kd Vd h12 hel3 kn' hs I F;exact ⟨by omega,b2⟩
   refine ⟨_,_,rfl,rfl,?_⟩;have k9:∀ b,b∈ta :: (tA++[x])→∀ o,H8 b=some o→H9 b=some o:=fun b hb o e=>st9.kp b o (fun z=>out7 b hb (jx z)) e;have has8:∀ b,b∈ta :: (tA++[x])→∃ o,H8 b=some o:=fun b hb=>by
    rcases List.mem_cons.mp hb with h | h
    ·rw [h];exact ⟨_,ta8⟩
    ·obtain ⟨_,_,e⟩:=hw8.mem h;exact ⟨_,e⟩
   have J9:YC t.C_Learner t.C_Book H H9 lp d rss ls ta L9 kn9 hs9 (yW tails w) (tA++[x]) (told++[w]) (n+k):=by
    refine ⟨S9,E8.step st9,A9.F,hq9,hell,hew,A9.path _ _ (J.P.tell J.hq P),⟨heads.length,?_,?_,.inr ?_⟩,k9 ta (by simp) _ ta8,hw8.keep fun b hb o e=>k9 b (List.mem_cons_of_mem _ hb) o e,J.n0,nt8,fun b hb z=>?_⟩
    ·rw [List.length_append,List.length_singleton];omega
    ·obtain ⟨g1,e1⟩:=A9.pre;obtain ⟨g2,e2⟩:=yp d (kn++[(w,jW rss ls w)]) (yW tails w) heads;rw [e1,e2,List.length_append,List.length_append];omega
    ·exact ((kG.new J.S.I Cl hwo hno hgu).step (yp _ _ _ _) (fun u b h=>h) (fun t h=>h)).step A9.pre A9.mono (fun t h=>h)
    ·rcases st9.own b z with h | h
     ·exact out7 b hb h
     ·obtain ⟨o,e⟩:=has8 b hb;rw [h] at e;cases e
   clear S9 st9 A9 k9 has8 hw8 ta8 k8 E8 S8;obtain ⟨Cl9,htl9,hhk9,hh129,hk99,htt9,smJ9⟩:=J9.few Kd Vd h12;have V9:=J9.S.I.valid Cl9 hd1 hd6 smJ9.hs;have hm9:13 - (told++[w]).length < 13 - told.length:=by rw [List.length_append,List.length_singleton];omega
   walk_at "w";refine qp (fun σ' H6=>∃ v n m',m' < 13 - told.length∧σ'=[some (.ref hp),some (.ref lp),some (.int (n:Nat)),some (.ref ta),some v]∧LsV t.C_Learner t.C_Book H lp d rss ls ta m' n v H6) ?_ (fun σ' H' z=>z);obtain ⟨rows9,f9,l9,R9⟩:=J9.S.ex;obtain ⟨dx9,fs9,hob9,hf9⟩:=l9.ob;walk_at "w";refine ⟨lp,dx9,_,rfl,hob9,hf9.no _ (by decide +kernel),?_⟩;refine ⟨lp,d,_,_,_,_,rfl,J9.S,smJ9,hd1,hd6,Cl9,fun H10 gp gw gs gl S10 st10 hh10 new10=>?_⟩;have E10:=J9.E.step st10;have k10:∀ b,b∈ta :: (tA++[x])→∀ o,H9 b=some o→H10 b=some o:=fun b hb o e=>st10.kp b o (fun z=>J9.out b hb (jx z)) e;have J10:YC t.C_Learner t.C_Book H H10 lp d rss ls ta L9 kn9 hs9 (yW tails w) (tA++[x]) (told++[w]) (n+k):=⟨S10,E10,J9.F,J9.hq,J9.ti,J9.tw,J9.P,J9.bt,k10 ta (by simp) _ J9.ht,J9.hw.keep fun b hb o e=>k10 b (List.mem_cons_of_mem _ hb) o e,J9.n0,J9.nt,J9.out⟩;walk_at "w";refine ⟨gp,d,gw,gs,_,gl,_,hp,d,aw,rs,rss,al,ls,rfl,hh10,hh.same E10.same,V9,Vd,fun _=>⟨fun H11 s11 heq=>?_,fun H11 x' w' s11 hx' hxn' P' hwl'=>?_⟩,fun z=>absurd rfl z⟩
   ·walk_at "w";exact ⟨_,n+k,_,hm9,rfl,_,_,_,_,_,_,⟨J10.S.same s11,J10.E.keep fun b o _ e=>s11 b o e,J10.F,J10.hq,J10.ti,J10.tw,J10.P,J10.bt,s11 _ _ J10.ht,J10.hw.keep fun b _ o e=>s11 b o e,J10.n0,J10.nt,J10.out⟩,rfl,.inl ⟨rfl,heq⟩⟩
   ·obtain ⟨rows10,f10,l10,R10⟩:=S10.ex;walk_at "w";exact ⟨_,n+k,_,hm9,rfl,_,_,_,_,_,_,⟨J10.S.same s11,J10.E.keep fun b o _ e=>s11 b o e,J10.F,J10.hq,J10.ti,J10.tw,J10.P,J10.bt,s11 _ _ J10.ht,J10.hw.keep fun b _ o e=>s11 b o e,J10.n0,J10.nt,J10.out⟩,rfl,.inr ⟨x',w',rfl,P',hx',l10.notOwn hxn',fun z=>by
     rcases List.mem_cons.mp z with h | h
     ·rw [h,J10.ht] at hxn';cases hxn'
     ·obtain ⟨_,_,e⟩:=J10.hw.mem h;rw [hxn'] at e;cases e⟩⟩
theorem j0g:jM ["script","k"] ["script","k"] (j2 Jb):=⟨rfl,rfl,rfl,by decide +kernel,rfl,by decide +kernel,by decide +kernel⟩
theorem XV (T:Txt K mg t):jd K t.fd_zh ["script","k"] []:=T.F_zh.binds fun _ _ _ _ _ _ us hl=>by obtain ⟨_,_,rfl⟩:=y4 hl;rfl
def Wb (K:PySem.W.Frag):Sp:=fun vs H Q _=>∃ (a:Addr) (ns:List Int) (k:Int),vs=[.ref a,.int k]∧SqL K H a (ns.map V.int)∧0≤k∧Q (.int (zY ns k)) H
theorem Yf (T:Txt K mg t):qE P w K mg base CX0 1 t.f_zh t.fd_zh ["script","k"] (Wb K):=by
 refine T.F_zh.ok j0g (fun vs H Q E h=>?_) (fun cdv A outer s H vs Q E hr h=>?_)
 ·obtain ⟨a,ns,k,rfl,_⟩:=h;rfl
 ·obtain ⟨a,ns,k,rfl,hS,h0,q⟩:=h;refine ⟨_,j3 (jz (jX xf (pv 1) (jI (jB K) rfl T.m_len PySem.boot_len (j0 (pv 0) (j4))) (je _))
 (j6 (jO (jb (jE K) (pv 0) (pv 1) (fun _ _=>rfl))))
 (jS))
 (j6 (jO (jG))),?_⟩
  walk_at "w";refine ⟨a,_,rfl,.inl hS,?_⟩;walk_at "w";refine yo (fun hc=>?_) (fun hc=>?_)
  ·have hc:k < (ns.map V.int).length:=of_decide_eq_true hc;rw [List.length_map] at hc;have hn:k.toNat < ns.length:=by omega
   walk_at "w";refine ji hS (js h0 (qL (List.getElem?_eq_getElem hn))) ?_;have e:zY ns k=ns[k.toNat]:=by
    unfold zY;rw [if_pos hc,List.getD_eq_getElem?_getD,List.getElem?_eq_getElem hn,Option.getD_some]
   rw [e] at q;exact q
  ·have hc:¬ k < (ns.map V.int).length:=of_decide_eq_false hc;rw [List.length_map] at hc;walk_at "w";have e:zY ns k=0:=by unfold zY;rw [if_neg hc]
   rw [e] at q;exact q
theorem Vq:jM ["cell","k","bound","stir"] ["cell","k","bound"] (j2 Ji):=⟨rfl,rfl,rfl,by decide +kernel,rfl,by decide +kernel,by decide +kernel⟩
theorem Uz (T:Txt K mg t):jd K t.fd_zr ["cell","k","bound"] []:=T.F_zr.binds fun _ _ _ _ _ _ us hl=>by obtain ⟨_,_,_,rfl⟩:=zX hl;rfl
def j0D:Sp:=fun vs H Q _=>∃ c k b:Int,vs=[.int c,.int k,.int b]∧0 < b∧Q (.int (Qs c k b)) H
theorem KR (T:Txt K mg t):qE P w K mg base CX0 1 t.f_zr t.fd_zr ["cell","k","bound"] (j0D):=by
 refine T.F_zr.ok Vq (fun vs H Q E h=>?_) (fun cdv A outer s H vs Q E hr h=>?_)
 ·obtain ⟨c,k,b,rfl,_⟩:=h;rfl
 ·obtain ⟨c,k,b,rfl,hb,q⟩:=h;refine ⟨_,j3 (jH (i:=3) Vq.nd rfl (Or.inl rfl) (jq vp (jq vi (jq y8 (jq y8 (jq vp (pv 0) (jG)) (jq vi (jG) (pv 1))) (jG)) (jG)) (jG)))
 (j3 (jH (i:=3) Vq.nd rfl (Or.inl rfl) (jq vp (jq vi (jq y8 (pv 3) (jq vi (jG) (jq y8 (pv 1) (jG)))) (jG)) (jG)))
 (j6 (jO (jq vp (jq XM (pv 3) (jG)) (pv 2))))),?_⟩
  walk_at "w";exact q
theorem VN:jM ["cell","doors","rooms","ways","k"] ["cell","doors","rooms"] (j2 kS):=⟨rfl,rfl,rfl,by decide +kernel,rfl,by decide +kernel,by decide +kernel⟩
theorem j0x (T:Txt K mg t):jd K t.fd_zi ["cell","doors","rooms"] []:=T.F_zi.binds fun _ _ _ _ _ _ us hl=>by obtain ⟨_,_,_,rfl⟩:=zX hl;rfl
def Wq:Sp:=fun vs H Q _=>∃ c d r:Int,vs=[.int c,.int d,.int r]∧0≤d∧d≤1000∧0≤r∧r≤1000 ∧
 ∀ (a:Addr) (rs:List Addr) (H':Hp),j7 H H'→Mat H' a rs (zj c d r)→(∀ b∈a :: rs,H b=none)→Q (.ref a) H'
theorem Wv (T:Txt K mg t):qE P w K mg base CX0 2 t.f_zi t.fd_zi ["cell","doors","rooms"] (Wq):=by
 refine T.F_zi.ok VN (fun vs H Q E h=>?_) (fun cdv A outer s H vs Q E hr h=>?_)
 ·obtain ⟨c,d,r,rfl,_⟩:=h;rfl
 ·obtain ⟨c,d,r,rfl,hd0,hd1,hr0,hr1,q⟩:=h;refine ⟨_,j3 (jH (i:=3) VN.nd rfl (Or.inl rfl) (jg (j4)))
 (j3 (qC PassesOwn.never rfl (qI rfl T.m_range (j0 (pv 2) (j4))) (jL (i:=4) VN.nd rfl (Or.inr rfl))
 (j6 (jZ (qc K PySem.F.plainAttrs_list PySem.F.slot_list_append PySem.F.type_list_append jj (pv 3) (j0 (yS (N:=["cell","doors","rooms","ways","k"]) (sc0:=(j2 kS)) (N':=["door","cell","k","rooms"]) (caps:=[none,some 0,some 4,some 2]) (by exact ⟨rfl,by decide +kernel,by decide +kernel,by decide +kernel,rfl,rfl,by decide +kernel⟩) rfl (qI rfl T.m_range (j0 (pv 1) (j4))) (fun _ _ _ _ _ _=>jL (i:=0) (show List.Nodup (["door","cell","k","rooms"]:List Str) from by decide +kernel) rfl (Or.inl rfl)) (fun _ _ _ _ _ _=>jK (KR T) (hr.mono (by decide)) rfl T.mg_zr T.F_zr.kp (Uz T) .nil jP (j0 (pv 1) (j0 (jq y8 (jq vi (jG) (pv 2)) (pv 0)) (j0 (pv 3) (j4)))))) (j4))))))
 (j6 (jO (pv 3)))),?_⟩
  walk_at "w";refine ⟨Nat.zero_le _,fun l hl=>?_⟩;walk_at "w";refine ⟨_,rfl,by omega,by omega,?_⟩;refine qR (fun i σ H'=>∃ rs kv,σ=[some (.int c),some (.int d),some (.int r),some (.ref l),kv]∧rs.length=i∧qr H H' l rs (kX c d r)) ⟨[],none,rfl,rfl,qr.start hl⟩ (fun i σ H1 hi p=>?_) (fun σ H1 p=>?_)
  ·obtain ⟨rs,kv,rfl,hlen,G⟩:=p;walk_at "w";refine ⟨.inl ⟨rfl,_,SqL.of G.top⟩,?_⟩;walk_at "w";refine ⟨_,rfl,by omega,by omega,?_⟩;have hrp:0 < r:=by omega
   refine zP (fun acc j ys H2=>ys=(List.range j).map (fun (j:Nat)=>V.int (Qs c (7 * (i:Int)+(j:Int)) r))∧H2=upd H1 acc (.lst ys)) (fun acc hacc=>⟨rfl,rfl⟩) (fun acc j ys H2 hacc hj p=>?_) (fun acc ys H2 hacc p=>?_)
   ·obtain ⟨rfl,rfl⟩:=p;walk_at "w";refine ⟨Wk.set rfl,?_⟩;walk_at "w";refine ⟨_,_,_,rfl,hrp,j1,yH (by simp;omega),?_,?_⟩
    ·rw [qS];simp only [Int.zero_add]
    ·rw [yr]
   ·obtain ⟨rfl,rfl⟩:=p;walk_at "w";have hla:l≠acc:=fun z=>G.fresh hacc (by rw [z];exact List.mem_cons_self);refine ⟨l,rs.map V.ref,_,rfl,rfl,(by rw [j5 hla];exact G.top),yH (by simp;omega),?_⟩;refine ⟨rs++[acc],_,rfl,by simp [hlen],?_⟩;have:=G.snoc hacc;have e:(kX c d r rs.length).map V.int=(List.range d.toNat).map (fun (j:Nat)=>V.int (Qs c (7 * (i:Int)+(j:Int)) r)):=by
     unfold kX;rw [List.map_map,hlen];rfl
    rw [e] at this;exact this
  ·obtain ⟨rs,kv,rfl,hlen,G⟩:=p;walk_at "w";refine q l rs H1 G.same ?_ G.new;have:=G.mat;rw [hlen] at this;exact this
theorem we:jM ["cell","rooms"] ["cell","rooms"] (j2 kL):=⟨rfl,rfl,rfl,by decide +kernel,rfl,by decide +kernel,by decide +kernel⟩
theorem j0r (T:Txt K mg t):jd K t.fd_zc ["cell","rooms"] []:=T.F_zc.binds fun _ _ _ _ _ _ us hl=>by obtain ⟨_,_,rfl⟩:=y4 hl;rfl
def wU:Sp:=fun vs H Q _=>∃ c r:Int,vs=[.int c,.int r]∧0≤r∧r≤1000∧∀ (a:Addr),H a=none→Q (.ref a) (upd H a (.lst ((zr c r).map V.bl)))
theorem Wd (T:Txt K mg t):qE P w K mg base CX0 2 t.f_zc t.fd_zc ["cell","rooms"] (wU):=by
 refine T.F_zc.ok we (fun vs H Q E h=>?_) (fun cdv A outer s H vs Q E hr h=>?_)
 ·obtain ⟨c,r,rfl,_⟩:=h;rfl
 ·obtain ⟨c,r,rfl,hr0,hr1,q⟩:=h;refine ⟨_,j6 (jO (yS (N:=["cell","rooms"]) (sc0:=(j2 kL)) (N':=["k","cell"]) (caps:=[none,some 0]) (by exact ⟨rfl,by decide +kernel,by decide +kernel,by decide +kernel,rfl,rfl,by decide +kernel⟩) rfl (qI rfl T.m_range (j0 (pv 1) (j4))) (fun _ _ _ _ _ _=>jL (i:=0) (show List.Nodup (["k","cell"]:List Str) from by decide +kernel) rfl (Or.inl rfl)) (fun _ _ _ _ _ _=>vS Qe (jK (KR T) (hr.mono (by decide)) rfl T.mg_zr T.F_zr.kp (Uz T) .nil jP (j0 (pv 1) (j0 (pv 0) (j0 (jG) (j4))))) (jG) (je _)))),?_⟩;walk_at "w";refine ⟨_,rfl,by omega,by omega,?_⟩;refine zP (fun acc j ys H2=>ys=(List.range j).map (fun (k:Nat)=>V.bl (decide (Qs c (k:Int) 2=1)))∧H2=upd H acc (.lst ys)) (fun acc hacc=>⟨rfl,rfl⟩) (fun acc j ys H2 hacc hj p=>?_) (fun acc ys H2 hacc p=>?_)
  ·obtain ⟨rfl,rfl⟩:=p;walk_at "w";refine ⟨Wk.set rfl,?_⟩;walk_at "w";refine ⟨_,_,_,rfl,by decide,?_⟩;walk_at "w";refine Zy rfl ⟨j1,yH (by simp;omega),?_,?_⟩
   ·rw [qS,zp];simp only [Int.zero_add];rfl
   ·rw [yr]
  ·obtain ⟨rfl,rfl⟩:=p;have:=q acc hacc;unfold zr at this;rw [List.map_map] at this;exact this
theorem Vv:jM ["ways","room","word","door"] ["ways","room","word"] (j2 Jc):=⟨rfl,rfl,rfl,by decide +kernel,rfl,by decide +kernel,by decide +kernel⟩
theorem Xq (T:Txt K mg t):jd K t.fd_zs ["ways","room","word"] []:=T.F_zs.binds fun _ _ _ _ _ _ us hl=>by obtain ⟨_,_,_,rfl⟩:=zX hl;rfl
def j03 (K:PySem.W.Frag):Sp:=fun vs H Q _=>∃ (a:Addr) (rs:List Addr) (rss:List (List Int)) (d q:Int) (b:Addr) (ws:List Int),vs=[.ref a,.int q,.ref b]∧Mat H a rs rss∧Ways d rss∧SqL K H b (ws.map V.int)∧jD d ws∧0≤q∧q < rss.length∧Q (.int (jF rss q ws)) H
theorem Ye (T:Txt K mg t):qE P w K mg base CX0 1 t.f_zs t.fd_zs ["ways","room","word"] (j03 K):=by
 refine T.F_zs.ok Vv (fun vs H Q E h=>?_) (fun cdv A outer s H vs Q E hr h=>?_)
 ·obtain ⟨a,rs,rss,d,q,b,ws,rfl,_⟩:=h;rfl
 ·obtain ⟨a,rs,rss,d,q,b,ws,rfl,M,W,hS,hw,h0,h1,k⟩:=h;refine ⟨_,j3 (qC PassesOwn.never rfl (jp K (pv 2)) (jL (i:=3) Vv.nd rfl (Or.inl rfl))
 (j6 (jH (i:=1) Vv.nd rfl (Or.inl rfl) (jb (jE K) (jb (jE K) (pv 0) (pv 1) (fun _ _=>rfl)) (pv 3) (fun _ _=>rfl)))))
 (j6 (jO (pv 1))),?_⟩
  walk_at "w";refine ⟨b,rfl,⟨_,hS⟩,?_⟩;refine qT (xs:=ws.map V.int) (fun i σ H'=>H'=H∧∃ kv,σ=[some (.ref a),some (.int (jF rss q (ws.take i))),some (.ref b),kv]) ⟨rfl,none,rfl⟩ (fun i σ H' _ p=>by rw [p.1];exact hS) (fun i x σ H' hx p=>?_) (fun σ H' p=>?_)
  ·obtain ⟨rfl,kv,rfl⟩:=p;have hx0:=qm hx;clear hx;obtain ⟨x,rfl,hx⟩:=hx0;obtain ⟨x0,x1⟩:=hw x (List.mem_of_getElem? hx);obtain ⟨b0,b1⟩:=q0 W (hw.take i) h0 h1;obtain ⟨row,e1,e2,_,_⟩:=yT W b0 b1 x0 x1;obtain ⟨r,e3,e4,e5⟩:=M.get e1;walk_at "w";refine ji (SqL.of M.top) (js b0 e4) ?_;walk_at "w";refine ji (SqL.of e5) (js x0 (qL e2)) ?_;walk_at "w";refine ⟨rfl,some (.int x),?_⟩;rw [J6 hx,qO];rfl
  ·obtain ⟨rfl,kv,rfl⟩:=p;walk_at "w";rw [List.length_map,List.take_length];exact k
theorem j0X:jM ["found"] ["found"] (j2 Q1):=⟨rfl,rfl,rfl,by decide +kernel,rfl,by decide +kernel,by decide +kernel⟩
theorem UA (T:Txt K mg t):jd K t.fd_zm ["found"] []:=T.F_zm.binds fun _ _ _ _ _ _ us hl=>by obtain ⟨_,rfl⟩:=zf hl;rfl
def WW:Sp:=fun vs H Q _=>∃ i:Int,vs=[.int i]∧Q (.bl true) H
theorem Vn (T:Txt K mg t):qE P w K mg base CX0 1 t.f_zm t.fd_zm ["found"] (WW):=by
 refine T.F_zm.ok j0X (fun vs H Q E h=>?_) (fun cdv A outer s H vs Q E hr h=>?_)
 ·obtain ⟨i,rfl,_⟩:=h;rfl
 ·obtain ⟨i,rfl,q⟩:=h;refine ⟨_,j6 (jO (U5 (jI (qQ K) rfl T.m_isinstance boot_isinstance (j0 (pv 0) (j0 (yt (v:=.ty "int") rfl T.m_int boot_int rfl) (j4)))) (UB (Uk (jI (qQ K) rfl T.m_isinstance boot_isinstance (j0 (pv 0) (j0 (yt (v:=.ty "bool") rfl T.m_bool boot_bool rfl) (j4)))))))),?_⟩;walk_at "w";refine ⟨_,_,_,_,true,rfl,.int i,rfl,rfl,?_⟩;walk_at "w";refine qK rfl ?_;walk_at "w";refine ⟨_,_,_,_,false,rfl,.int i,rfl,W4 K,?_⟩;walk_at "w";exact q
theorem K1:jM ["found","due","part"] ["found","due"] (j2 QG):=⟨rfl,rfl,rfl,by decide +kernel,rfl,by decide +kernel,by decide +kernel⟩
theorem Wg (T:Txt K mg t):jd K t.fd_zj ["found","due"] []:=T.F_zj.binds fun _ _ _ _ _ _ us hl=>by obtain ⟨_,_,rfl⟩:=y4 hl;rfl
def wv (K:PySem.W.Frag):Sp:=fun vs H Q _=>∃ (a b:Addr) (ns ms:List Int),vs=[.ref a,.ref b]∧H a=some (.lst (ns.map V.int))∧SqL K H b (ms.map V.int)∧Q (.bl (decide (ns=ms))) H
theorem Ke (T:Txt K mg t):qE P w K mg base CX0 2 t.f_zj t.fd_zj ["found","due"] (wv K):=by
 refine T.F_zj.ok K1 (fun vs H Q E h=>?_) (fun cdv A outer s H vs Q E hr h=>?_)
 ·obtain ⟨a,b,ns,ms,rfl,_⟩:=h;rfl
 ·obtain ⟨a,b,ns,ms,rfl,ha,hb,q⟩:=h;refine ⟨_,j3 (jz (PW.pt (v0 (qo (qv (jI (qQ K) rfl T.m_isinstance boot_isinstance (j0 (pv 0) (j0 (yt (v:=.ty "list") rfl T.m_list boot_list rfl) (j4)))))) (zc (jX yg (jI (jB K) rfl T.m_len PySem.boot_len (j0 (pv 0) (j4))) (jI (jB K) rfl T.m_len PySem.boot_len (j0 (pv 1) (j4))) (je _)))))
 (j6 (jO (yQ)))
 (jS))
 (j3 (qC PassesOwn.never rfl (jp K (pv 0)) (jL (i:=2) K1.nd rfl (Or.inl rfl))
 (j6 (jz (qo (qv (jK (Vn T) (hr.mono (by decide)) rfl T.mg_zm T.F_zm.kp (UA T) .nil jP (j0 (pv 2) (j4)))))
 (j6 (jO (yQ)))
 (jS))))
 (j6 (jO (vS (Vz K hr.units) (pv 0) (pv 1) (je _))))),?_⟩
  walk_at "w";refine ⟨_,_,_,_,true,rfl,.lst ha,rfl,rfl,?_⟩;walk_at "w";refine jU rfl ?_;walk_at "w";refine ⟨a,_,rfl,.inl (SqL.of ha),?_⟩;walk_at "w";refine ⟨b,_,rfl,.inl hb,?_⟩;refine v7 rfl ?_;walk_at "w";rw [zp,List.length_map,List.length_map];refine yo (fun hc=>?_) (fun hc=>?_)
  ·have hne:¬ ns=ms:=fun z=>by subst z;simp at hc
   walk_at "w";rw [decide_eq_false hne] at q;exact q
  ·walk_at "w";refine ⟨a,rfl,⟨_,SqL.of ha⟩,?_⟩;refine qT (xs:=ns.map V.int) (fun i σ H'=>H'=H∧∃ kv,σ=[some (.ref a),some (.ref b),kv]) ⟨rfl,none,rfl⟩ (fun i σ H' _ p=>by rw [p.1];exact SqL.of ha) (fun i x σ H' hx p=>?_) (fun σ H' p=>?_)
   ·obtain ⟨rfl,kv,rfl⟩:=p;have hx0:=qm hx;clear hx;obtain ⟨x,rfl,hx⟩:=hx0;walk_at "w";refine ⟨x,rfl,?_⟩;walk_at "w";refine jU rfl ?_;walk_at "w";exact ⟨rfl,_,rfl⟩
   ·obtain ⟨rfl,kv,rfl⟩:=p;walk_at "w";exact ⟨a,b,ns,ms,rfl,rfl,SqL.of ha,hb,q⟩
theorem Kl:jM ["found","due","part"] ["found","due"] (j2 Q5):=⟨rfl,rfl,rfl,by decide +kernel,rfl,by decide +kernel,by decide +kernel⟩
theorem j19 (T:Txt K mg t):jd K t.fd_zl ["found","due"] []:=T.F_zl.binds fun _ _ _ _ _ _ us hl=>by obtain ⟨_,_,rfl⟩:=y4 hl;rfl
def j0a (K:PySem.W.Frag):Sp:=fun vs H Q _=>∃ (a b:Addr) (ns:List Bool),vs=[.ref a,.ref b]∧H a=some (.lst (ns.map V.bl))∧SqL K H b (ns.map V.bl)∧Q (.bl true) H
theorem j0J (T:Txt K mg t):qE P w K mg base CX0 1 t.f_zl t.fd_zl ["found","due"] (j0a K):=by
 refine T.F_zl.ok Kl (fun vs H Q E h=>?_) (fun cdv A outer s H vs Q E hr h=>?_)
 ·obtain ⟨a,b,ns,rfl,_⟩:=h;rfl
 ·obtain ⟨a,b,ns,rfl,ha,hb,q⟩:=h;refine ⟨_,j3 (jz (PW.pt (v0 (qo (qv (jI (qQ K) rfl T.m_isinstance boot_isinstance (j0 (pv 0) (j0 (yt (v:=.ty "list") rfl T.m_list boot_list rfl) (j4)))))) (zc (jX yg (jI (jB K) rfl T.m_len PySem.boot_len (j0 (pv 0) (j4))) (jI (jB K) rfl T.m_len PySem.boot_len (j0 (pv 1) (j4))) (je _)))))
 (j6 (jO (yQ)))
 (jS))
 (j3 (qC PassesOwn.never rfl (jp K (pv 0)) (jL (i:=2) Kl.nd rfl (Or.inl rfl))
 (j6 (jz (qo (qv (jI (qQ K) rfl T.m_isinstance boot_isinstance (j0 (pv 2) (j0 (yt (v:=.ty "bool") rfl T.m_bool boot_bool rfl) (j4))))))
 (j6 (jO (yQ)))
 (jS))))
 (j6 (jO (vS (Vx K hr.units) (pv 0) (pv 1) (je _))))),?_⟩
  walk_at "w";refine ⟨_,_,_,_,true,rfl,.lst ha,rfl,rfl,?_⟩;walk_at "w";refine jU rfl ?_;walk_at "w";refine ⟨a,_,rfl,.inl (SqL.of ha),?_⟩;walk_at "w";refine ⟨b,_,rfl,.inl hb,?_⟩;refine v7 rfl ?_;walk_at "w";refine jU (by simp) ?_;walk_at "w";refine ⟨a,rfl,⟨_,SqL.of ha⟩,?_⟩;refine qT (xs:=ns.map V.bl) (fun i σ H'=>H'=H∧∃ kv,σ=[some (.ref a),some (.ref b),kv]) ⟨rfl,none,rfl⟩ (fun i σ H' _ p=>by rw [p.1];exact SqL.of ha) (fun i x σ H' hx p=>?_) (fun σ H' p=>?_)
  ·obtain ⟨rfl,kv,rfl⟩:=p;have hx0:=YK hx;clear hx;obtain ⟨x,rfl,hx⟩:=hx0;walk_at "w";refine ⟨_,_,_,_,true,rfl,.bl x,rfl,rfl,?_⟩;walk_at "w";refine jU rfl ?_;walk_at "w";exact ⟨rfl,_,rfl⟩
  ·obtain ⟨rfl,kv,rfl⟩:=p;walk_at "w";refine ⟨_,_,.lst (SqL.of ha) (YG K _ ns),.lst hb (YG K _ ns),J2 ns,J2 ns,?_⟩;have e:PyData.eqv (.list (ns.map PyData.bool)) (.list (ns.map PyData.bool))=true:=by simp [PyData.eqv,Ve]
   rw [e];exact q
theorem K2:jM ["found","doors","ways","lamps","k"] ["found","doors","ways","lamps"] (j2 Q8):=⟨rfl,rfl,rfl,by decide +kernel,rfl,by decide +kernel,by decide +kernel⟩
theorem j0M (T:Txt K mg t):jd K t.fd_zd ["found","doors","ways","lamps"] []:=T.F_zd.binds fun _ _ _ _ _ _ us hl=>by obtain ⟨_,_,_,_,rfl⟩:=xp hl;rfl
def wq (K:PySem.W.Frag) (C:Addr):Sp:=fun vs H Q _=>∃ (p:Addr) (d:Int) (aw:Addr) (rs:List Addr) (rss:List (List Int)) (al:Addr) (ls:List Bool) (a2:Addr) (rs2:List Addr) (l2:Addr),vs=[.ref p,.int d,.ref a2,.ref l2]∧qX C H p d aw rs rss al ls∧Mat H a2 rs2 rss∧SqL K H l2 (ls.map V.bl)∧rss.length≤1000∧Q (.bl true) H
theorem KO (T:Txt K mg t):qE P w K mg base CX0 3 t.f_zd t.fd_zd ["found","doors","ways","lamps"] (wq K t.C_House):=by
 refine T.F_zd.ok K2 (fun vs H Q E h=>?_) (fun cdv A outer s H vs Q E hr h=>?_)
 ·obtain ⟨p,d,aw,rs,rss,al,ls,a2,rs2,l2,rfl,_⟩:=h;rfl
 ·obtain ⟨p,d,aw,rs,rss,al,ls,a2,rs2,l2,rfl,hh,M2,hL2,hlen,q⟩:=h;obtain ⟨dx,ho⟩:=hh.ob;have e1:(rs.map V.ref).length=rss.length:=by rw [List.length_map,hh.ways.len]
  have e2:(rs2.map V.ref).length=rss.length:=by rw [List.length_map,M2.len]
  refine ⟨_,j3 (jz (PW.pt (v0 (qo (qv (jI (qQ K) rfl T.m_isinstance boot_isinstance (j0 (pv 0) (j0 (JK (v:=.ref _) rfl T.mg_House rfl) (j4)))))) (v0 (qo (qv (jK (Vn T) (hr.mono (by decide)) rfl T.mg_zm T.F_zm.kp (UA T) .nil jP (j0 (jJ K (pv 0) rfl) (j4))))) (zc (jX yg (jJ K (pv 0) rfl) (pv 1) (je _))))))
 (j6 (jO (yQ)))
 (jS))
 (j3 (jz (PW.pt (v0 (qo (qv (jI (qQ K) rfl T.m_isinstance boot_isinstance (j0 (jJ K (pv 0) rfl) (j0 (yt (v:=.ty "list") rfl T.m_list boot_list rfl) (j4)))))) (zc (jX yg (jI (jB K) rfl T.m_len PySem.boot_len (j0 (jJ K (pv 0) rfl) (j4))) (jI (jB K) rfl T.m_len PySem.boot_len (j0 (pv 2) (j4))) (je _)))))
 (j6 (jO (yQ)))
 (jS))
 (j3 (qC PassesOwn.never rfl (qI rfl T.m_range (j0 (jI (jB K) rfl T.m_len PySem.boot_len (j0 (pv 2) (j4))) (j4))) (jL (i:=4) K2.nd rfl (Or.inl rfl))
 (j6 (jz (qo (qv (jK (Ke T) (hr.mono (by decide)) rfl T.mg_zj T.F_zj.kp (Wg T) .nil jP (j0 (jb (jE K) (jJ K (pv 0) rfl) (pv 4) (fun _ _=>rfl)) (j0 (jb (jE K) (pv 2) (pv 4) (fun _ _=>rfl)) (j4))))))
 (j6 (jO (yQ)))
 (jS))))
 (j6 (jO (jK (j0J T) (hr.mono (by decide)) rfl T.mg_zl T.F_zl.kp (j19 T) .nil jP (j0 (jJ K (pv 0) rfl) (j0 (pv 3) (j4)))))))),?_⟩
  walk_at "w";refine ⟨_,_,_,_,true,rfl,.ins ho T.cl_House T.tc_House T.tg T.tt T.tm_House,rfl,?_,?_⟩
  ·unfold PySem.W.kitOne;rw [if_pos (beq_self_eq_true _)]
  walk_at "w";refine jU rfl ?_;walk_at "w";refine ⟨_,rfl,p,_,dx,_,_,rfl,ho,T.cl_House,T.na_House_doors,yd _ _ _,?_⟩;walk_at "w";refine ⟨d,rfl,?_⟩;walk_at "w";refine jU rfl ?_;walk_at "w";refine ⟨_,rfl,p,_,dx,_,_,rfl,ho,T.cl_House,T.na_House_doors,yd _ _ _,?_⟩;walk_at "w";refine v7 rfl ?_;walk_at "w";refine jU (by simp) ?_;walk_at "w";refine ⟨_,rfl,p,_,dx,_,_,rfl,ho,T.cl_House,T.na_House_ways,yO _ _ _,?_⟩;walk_at "w";refine ⟨_,_,_,_,true,rfl,.lst hh.ways.top,rfl,rfl,?_⟩;walk_at "w";refine jU rfl ?_;walk_at "w";refine ⟨_,rfl,p,_,dx,_,_,rfl,ho,T.cl_House,T.na_House_ways,yO _ _ _,?_⟩;walk_at "w";refine ⟨aw,_,rfl,.inl (SqL.of hh.ways.top),?_⟩;walk_at "w";refine ⟨a2,_,rfl,.inl (SqL.of M2.top),?_⟩;refine v7 rfl ?_;walk_at "w";refine jU (by rw [e1,e2];simp) ?_;walk_at "w";refine ⟨a2,_,rfl,.inl (SqL.of M2.top),?_⟩;rw [e2];walk_at "w";refine ⟨_,rfl,by omega,by omega,?_⟩;refine qR (fun i σ H'=>H'=H∧∃ kv,σ=[some (.ref p),some (.int d),some (.ref a2),some (.ref l2),kv]) ⟨rfl,none,rfl⟩ (fun i σ H' hi pp=>?_) (fun σ H' pp=>?_)
  ·obtain ⟨rfl,kv,rfl⟩:=pp;have hi':i < rss.length:=by omega
   have eg:=List.getElem?_eq_getElem hi';obtain ⟨r1,_,x1,y1⟩:=hh.ways.get eg;obtain ⟨r2,_,x2,y2⟩:=M2.get eg;walk_at "w";refine ⟨_,rfl,p,_,dx,_,_,rfl,ho,T.cl_House,T.na_House_ways,yO _ _ _,?_⟩;walk_at "w";refine ji (SqL.of hh.ways.top) (js (by omega) (by rw [show ((0:Int)+(i:Int)).toNat=i by omega];exact x1)) ?_;walk_at "w";refine ji (SqL.of M2.top) (js (by omega) (by rw [show ((0:Int)+(i:Int)).toNat=i by omega];exact x2)) ?_;walk_at "w";refine ⟨r1,r2,_,_,rfl,y1,SqL.of y2,?_⟩;walk_at "w";refine jU (by simp) ?_;walk_at "w";exact ⟨rfl,_,rfl⟩
  ·obtain ⟨rfl,kv,rfl⟩:=pp;walk_at "w";refine ⟨_,rfl,p,_,dx,_,_,rfl,ho,T.cl_House,T.na_House_lamps,zG _ _ _,?_⟩;walk_at "w";exact ⟨al,l2,ls,rfl,hh.lamps,hL2,q⟩
theorem K9:jM ["found","due","k"] ["found","due"] (j2 Q0):=⟨rfl,rfl,rfl,by decide +kernel,rfl,by decide +kernel,by decide +kernel⟩
theorem j0l (T:Txt K mg t):jd K t.fd_zW ["found","due"] []:=T.F_zW.binds fun _ _ _ _ _ _ us hl=>by obtain ⟨_,_,rfl⟩:=y4 hl;rfl
def wg (K:PySem.W.Frag):Sp:=fun vs H Q _=>∃ (fa da:Addr) (fA dA:List Addr) (ws:List (List Int)),vs=[.ref fa,.ref da]∧H fa=some (.lst (fA.map V.ref))∧LsAt V.int H fA ws∧SqL K H da (dA.map V.ref)∧LsAt V.int H dA ws∧ws.length≤1000000∧Q (.bl true) H
theorem wj (T:Txt K mg t):qE P w K mg base CX0 3 t.f_zW t.fd_zW ["found","due"] (wg K):=by
 refine T.F_zW.ok K9 (fun vs H Q E h=>?_) (fun cdv A outer s H vs Q E hr h=>?_)
 ·obtain ⟨fa,da,fA,dA,ws,rfl,_⟩:=h;rfl
 ·obtain ⟨fa,da,fA,dA,ws,rfl,hf,lf,hd,ld,hl,q⟩:=h;have ef:(fA.map V.ref).length=ws.length:=by rw [List.length_map,lf.len]
  have ed:(dA.map V.ref).length=ws.length:=by rw [List.length_map,ld.len]
  refine ⟨_,j3 (jz (PW.pt (v0 (qo (qv (jI (qQ K) rfl T.m_isinstance boot_isinstance (j0 (pv 0) (j0 (yt (v:=.ty "list") rfl T.m_list boot_list rfl) (j4)))))) (zc (jX yg (jI (jB K) rfl T.m_len PySem.boot_len (j0 (pv 0) (j4))) (jI (jB K) rfl T.m_len PySem.boot_len (j0 (pv 1) (j4))) (je _)))))
 (j6 (jO (yQ)))
 (jS))
 (j3 (qC PassesOwn.never rfl (qI rfl T.m_range (j0 (jI (jB K) rfl T.m_len PySem.boot_len (j0 (pv 1) (j4))) (j4))) (jL (i:=2) K9.nd rfl (Or.inl rfl))
 (j6 (jz (qo (qv (jK (Ke T) (hr.mono (by decide)) rfl T.mg_zj T.F_zj.kp (Wg T) .nil jP (j0 (jb (jE K) (pv 0) (pv 2) (fun _ _=>rfl)) (j0 (jb (jE K) (pv 1) (pv 2) (fun _ _=>rfl)) (j4))))))
 (j6 (jO (yQ)))
 (jS))))
 (j6 (jO (yQ)))),?_⟩
  walk_at "w";refine ⟨_,_,_,_,true,rfl,.lst hf,rfl,rfl,?_⟩;walk_at "w";refine jU rfl ?_;walk_at "w";refine ⟨fa,_,rfl,.inl (SqL.of hf),?_⟩;walk_at "w";refine ⟨da,_,rfl,.inl hd,?_⟩;refine v7 rfl ?_;walk_at "w";refine jU (by rw [ef,ed];simp) ?_;walk_at "w";refine ⟨da,_,rfl,.inl hd,?_⟩;rw [ed];walk_at "w";refine ⟨_,rfl,by omega,by omega,?_⟩;refine qR (fun i σ H'=>H=H'∧∃ kv,σ=[some (.ref fa),some (.ref da),kv]) ⟨rfl,none,rfl⟩ (fun i σ H' hi pp=>?_) (fun σ H' pp=>?_)
  ·obtain ⟨rfl,kv,rfl⟩:=pp;have e0:(0:Int)+(i:Int)=(i:Int):=by omega
   rw [e0];have hi':i < ws.length:=by omega
   have eg:=List.getElem?_eq_getElem hi';obtain ⟨r1,_,x1,y1⟩:=lf.get eg;obtain ⟨r2,_,x2,y2⟩:=ld.get eg;walk_at "w";refine ji (SqL.of hf) (jY (j:=i) x1) ?_;walk_at "w";refine ji hd (jY (j:=i) x2) ?_;walk_at "w";refine ⟨r1,r2,_,_,rfl,y1,SqL.of y2,?_⟩;walk_at "w";refine jU (by simp) ?_;walk_at "w";exact ⟨rfl,_,rfl⟩
  ·obtain ⟨rfl,kv,rfl⟩:=pp;walk_at "w";exact q
theorem vx:jM ["ways","lamps","left","others","lights","right","rows","met","k","door","to","go"] ["ways","lamps","left","others","lights","right"] (j2 QH):=⟨rfl,rfl,rfl,by decide +kernel,rfl,by decide +kernel,by decide +kernel⟩
theorem UU (T:Txt K mg t):jd K t.fd_zt ["ways","lamps","left","others","lights","right"] []:=T.F_zt.binds fun _ _ _ _ _ _ us hl=>by obtain ⟨_,_,_,_,_,_,rfl⟩:=j0H hl;rfl
abbrev PK:=Int×Int
def stP (rss rss2:List (List Int)):PK→Int→PK:=fun p x=>(step rss p.1 x,step rss2 p.2 x)
theorem YX (rss rss2:List (List Int)) (a b:Int) (w:List Int):jm (stP rss rss2) (a,b) w=(jF rss a w,jF rss2 b w):=by
 unfold jm jF
 induction w generalizing a b with
 | nil=>rfl
 | cons x w ih=>exact ih (step rss a x) (step rss2 b x)
def j0S (K:PySem.W.Frag):Sp:=fun vs H Q _=>∃ (aw:Addr) (rs:List Addr) (rss:List (List Int)) (al:Addr) (ls:List Bool) (a:Int) (ao:Addr) (rs2:List Addr) (rss2:List (List Int)) (ol:Addr) (ls2:List Bool) (b d:Int),vs=[.ref aw,.ref al,.int a,.ref ao,.ref ol,.int b]∧Mat H aw rs rss∧SqL K H al (ls.map V.bl)∧Mat H ao rs2 rss2∧SqL K H ol (ls2.map V.bl)∧Jn d rss rss2 ls ls2 a b ∧
 (∀ H',j7 H H'→(∀ w,jD d w→jh ls (jF rss a w)=jh ls2 (jF rss2 b w))→Q .non H') ∧
 (∀ H' p w,j7 H H'→H' p=some (.lst (w.map V.int))→H p=none→x6 d rss rss2 ls ls2 a b w→Q (.ref p) H')
def yj (L:List (PK×List Int)):List (List Key×V):=L.map fun e=>([.inl e.1.1,.inl e.1.2],.bl true)
structure PB (H H':Hp) (ra md:Addr) (L:List (PK×List Int)) (ts ws:List Addr):Prop where
 same:j7 H H'
 rows:H' ra=some (.lst (ts.map V.ref))
 lt:ts.length=L.length
 lw:ws.length=L.length
 trip:∀ (i:Nat) (t w:Addr) (e:PK×List Int),ts[i]?=some t→ws[i]?=some w→L[i]?=some e→H' t=some (.lst [.ref w,.int e.1.1,.int e.1.2])
 word:∀ (i:Nat) (w:Addr) (e:PK×List Int),ws[i]?=some w→L[i]?=some e→H' w=some (.lst (e.2.map V.int))
 met:H' md=some (.dT (yj L))
 nra:H ra=none
 nmd:H md=none
 nw:∀ b∈ws,H b=none
 ne:ra≠md
 out:∀ b∈ts++ws,b≠ra∧b≠md
theorem PB.tick {H H' H2:Hp} {ra md:Addr} {L:List (PK×List Int)} {ts ws:List Addr} (B:PB H H' ra md L ts ws) (s:j7 H' H2):PB H H2 ra md L ts ws :=
 ⟨B.same.trans s,s _ _ B.rows,B.lt,B.lw,fun i t w e h1 h2 h3=>s _ _ (B.trip i t w e h1 h2 h3),fun i w e h1 h2=>s _ _ (B.word i w e h1 h2),s _ _ B.met,B.nra,B.nmd,B.nw,B.ne,B.out⟩
theorem PB.add {H H1 H3:Hp} {ra md p2 t2:Addr} {L:List (PK×List Int)} {ts ws:List Addr} (B:PB H H1 ra md L ts ws) {e:PK×List Int} (s:j7 (upd H1 md (.dT (yj L++[([.inl e.1.1,.inl e.1.2],.bl true)]))) H3) (hp:(upd H1 md (.dT (yj L++[([.inl e.1.1,.inl e.1.2],.bl true)]))) p2=none) (ht:(upd H1 md (.dT (yj L++[([.inl e.1.1,.inl e.1.2],.bl true)]))) t2=none)
  (hp3:H3 p2=some (.lst (e.2.map V.int))) (ht3:H3 t2=some (.lst [.ref p2,.int e.1.1,.int e.1.2])) :
  PB H (upd H3 ra (.lst (ts.map V.ref++[.ref t2]))) ra md (L++[e]) (ts++[t2]) (ws++[p2]):=by
 have hmd:∀ b o,H1 b=some o→b≠md→H3 b=some o:=fun b o h hb=>s b o (by rw [j5 hb];exact h);have pm:p2≠md:=fun z=>by rw [z,j1] at hp;cases hp
 have tm:t2≠md:=fun z=>by rw [z,j1] at ht;cases ht
 rw [j5 pm] at hp;rw [j5 tm] at ht;have pr:p2≠ra:=fun z=>by have:=B.rows;rw [← z,hp] at this;cases this
 have tr:t2≠ra:=fun z=>by have:=B.rows;rw [← z,ht] at this;cases this
 have H3md:H3 md=some (.dT (yj L++[([.inl e.1.1,.inl e.1.2],.bl true)])):=s md _ j1;have s0:j7 H H3:=fun b o h=>hmd b o (B.same b o h) (jA h B.nmd);refine ⟨s0.upd_fresh B.nra,by rw [j1,List.map_append];rfl,by simp [B.lt],by simp [B.lw],fun i t w f h1 h2 h3=>?_,fun i w f h1 h2=>?_,?_,B.nra,B.nmd,fun b hb=>?_,B.ne,fun b hb=>?_⟩
 ·rcases getElem?_snoc h3 with ⟨hl,h3⟩ | ⟨hl,rfl⟩
  ·rw [List.getElem?_append_left (by rw [B.lt];exact hl)] at h1;rw [List.getElem?_append_left (by rw [B.lw];exact hl)] at h2;obtain ⟨o1,o2⟩:=B.out t (List.mem_append_left _ (List.mem_of_getElem? h1));rw [j5 o1];exact hmd _ _ (B.trip i t w f h1 h2 h3) o2
  ·rcases getElem?_snoc h1 with ⟨h,_⟩ | ⟨_,rfl⟩
   ·rw [B.lt] at h;omega
   ·rcases getElem?_snoc h2 with ⟨h,_⟩ | ⟨_,rfl⟩
    ·rw [B.lw] at h;omega
    ·rw [j5 tr];exact ht3
 ·rcases getElem?_snoc h2 with ⟨hl,h2⟩ | ⟨hl,rfl⟩
  ·rw [List.getElem?_append_left (by rw [B.lw];exact hl)] at h1;obtain ⟨o1,o2⟩:=B.out w (List.mem_append_right _ (List.mem_of_getElem? h1));rw [j5 o1];exact hmd _ _ (B.word i w f h1 h2) o2
  ·rcases getElem?_snoc h1 with ⟨h,_⟩ | ⟨_,rfl⟩
   ·rw [B.lw] at h;omega
   ·rw [j5 pr];exact hp3
 ·rw [j5 (Ne.symm B.ne),H3md];unfold yj;rw [List.map_append];rfl
 ·rcases List.mem_append.mp hb with hb | hb
  ·exact B.nw b hb
  ·rw [List.mem_singleton.mp hb];exact B.same.free hp
 ·have hb:b∈(ts++[t2])++(ws++[p2]):=hb;simp only [List.mem_append,List.mem_singleton] at hb;rcases hb with (hb | rfl) | (hb | rfl)
  ·exact B.out b (List.mem_append_left _ hb)
  ·exact ⟨tr,tm⟩
  ·exact B.out b (List.mem_append_right _ hb)
  ·exact ⟨pr,pm⟩
theorem vB {r:PK}:∀ {L:List (PK×List Int)},qt L r=false→yK (yj L) [.inl r.1,.inl r.2]=none
 | [],_=>rfl
 | e :: L,h=>by
  have h':¬ e.1=r∧qt L r=false:=by simpa [qt] using h
  show yK ((([.inl e.1.1,.inl e.1.2]:List Key),V.bl true) :: yj L) _=_;rw [yM (fun z=>h'.1 (by injection z with z1 z2;injection z2 with z2 _;exact Prod.ext (Sum.inl.inj z1) (Sum.inl.inj z2)))];exact vB h'.2
theorem xz {r:PK}:∀ {L:List (PK×List Int)},qt L r=true→(yK (yj L) [.inl r.1,.inl r.2]).isSome=true
 | [],h=>by simp [qt] at h
 | e :: L,h=>by
  show (yK ((([.inl e.1.1,.inl e.1.2]:List Key),V.bl true) :: yj L) _).isSome=_
  by_cases z:e.1=r
  ·rw [yU (by rw [z])];rfl
  ·rw [yM (fun y=>z (by injection y with z1 z2;injection z2 with z2 _;exact Prod.ext (Sum.inl.inj z1) (Sum.inl.inj z2)))];exact xz (by simpa [qt,z] using h)
theorem Zo (T:Txt K mg t):qE P w K mg base CX0 1 t.f_zt t.fd_zt ["ways","lamps","left","others","lights","right"] (j0S K):=by
 refine T.F_zt.ok vx (fun vs H Q E h=>?_) (fun cdv A outer s H vs Q E hr h=>?_)
 ·obtain ⟨aw,rs,rss,al,ls,a,ao,rs2,rss2,ol,ls2,b,d,rfl,_⟩:=h;rfl
 ·obtain ⟨aw,rs,rss,al,ls,a,ao,rs2,rss2,ol,ls2,b,d,rfl,M,hL,M2,hL2,PI,qn,qs⟩:=h;refine exO (kl (jH (i:=6) vx.nd rfl (Or.inl rfl) (jg (j0 (jg (j0 (jg (j4)) (j0 (pv 2) (j0 (pv 5) (j4))))) (j4))))
 (YL (i:=7) hr.units1 vx.nd rfl (Or.inl rfl) (vW (j0 (pv 2) (j0 (pv 5) (j4)))) (yQ)
 (j3 (jH (i:=8) vx.nd rfl (Or.inl rfl) (jG))
 (j3 (y9 PassesOwn.never (jX xf (pv 8) (jI (jB K) rfl T.m_len PySem.boot_len (j0 (pv 6) (j4))) (je _))
 (j3 (jz (jX yg (jb (jE K) (pv 1) (jb (jE K) (jb (jE K) (pv 6) (pv 8) (fun _ _=>rfl)) (jG) (fun _ _=>rfl)) (fun _ _=>rfl)) (jb (jE K) (pv 4) (jb (jE K) (jb (jE K) (pv 6) (pv 8) (fun _ _=>rfl)) (jG) (fun _ _=>rfl)) (fun _ _=>rfl)) (je _))
 (j6 (jO (jb (jE K) (jb (jE K) (pv 6) (pv 8) (fun _ _=>rfl)) (jG) (fun _ _=>rfl))))
 (jS))
 (j3 (qC PassesOwn.never rfl (qI rfl T.m_range (j0 (jI (jB K) rfl T.m_len PySem.boot_len (j0 (jb (jE K) (pv 0) (jG) (fun _ _=>rfl)) (j4))) (j4))) (jL (i:=9) vx.nd rfl (Or.inl rfl))
 (j3 (jH (i:=10) vx.nd rfl (Or.inl rfl) (jb (jE K) (jb (jE K) (pv 0) (jb (jE K) (jb (jE K) (pv 6) (pv 8) (fun _ _=>rfl)) (jG) (fun _ _=>rfl)) (fun _ _=>rfl)) (pv 9) (fun _ _=>rfl)))
 (j3 (jH (i:=11) vx.nd rfl (Or.inl rfl) (jb (jE K) (jb (jE K) (pv 3) (jb (jE K) (jb (jE K) (pv 6) (pv 8) (fun _ _=>rfl)) (jG) (fun _ _=>rfl)) (fun _ _=>rfl)) (pv 9) (fun _ _=>rfl)))
 (j6 (qV (jz (v4 (vn hr.units1 (vW (j0 (pv 10) (j0 (pv 11) (j4)))) (pv 7)))
 (j3 (vO hr.units1 (pv 7) (vW (j0 (pv 10) (j0 (pv 11) (j4)))) (yQ) rfl)
 (j6 (jZ (qc K PySem.F.plainAttrs_list PySem.F.slot_list_append PySem.F.type_list_append jj (pv 6) (j0 (jg (j0 (jq qw (jb (jE K) (jb (jE K) (pv 6) (pv 8) (fun _ _=>rfl)) (jG) (fun _ _=>rfl)) (jg (j0 (pv 9) (j4)))) (j0 (pv 10) (j0 (pv 11) (j4))))) (j4))))))
 (jS)))))))
 (j6 (jH (i:=8) vx.nd rfl (Or.inl rfl) (jq y8 (pv 8) (jG)))))))
 (j6 (jO (qf))))))) ?_
  have hP0:jm (stP rss rss2) (a,b) []=(a,b):=rfl;walk_at "w";refine ⟨Nat.zero_le _,fun w0 hw0=>?_⟩;walk_at "w";refine ⟨by show 3≤sizeLine;decide,fun t0 ht0=>?_⟩;walk_at "w";refine ⟨by show 1≤sizeLine;decide,fun ra hra=>?_⟩;walk_at "w";intro md hmd;walk_at "w";refine ⟨by show 2≤sizeLine;decide,fun tp htp=>?_⟩;walk_at "w";have n_wt:w0≠t0:=fun z=>by rw [← z,j1] at ht0;cases ht0
  have n_tr:t0≠ra:=fun z=>by rw [← z,j1] at hra;cases hra
  have n_rm:ra≠md:=fun z=>by rw [← z,j1] at hmd;cases hmd
  have n_mt:md≠tp:=fun z=>by rw [← z,j1] at htp;cases htp
  have f_t0:H t0=none:=by rw [j5 (Ne.symm n_wt)] at ht0;exact ht0
  have f_ra:H ra=none∧ra≠w0:=by
   rw [j5 (Ne.symm n_tr)] at hra;have:ra≠w0:=fun z=>by rw [z,j1] at hra;cases hra
   rw [j5 this] at hra;exact ⟨hra,this⟩
  have f_md:H md=none∧md≠t0∧md≠w0:=by
   rw [j5 (Ne.symm n_rm)] at hmd;have h1:md≠t0:=fun z=>by rw [z,j1] at hmd;cases hmd
   rw [j5 h1] at hmd;have h2:md≠w0:=fun z=>by rw [z,j1] at hmd;cases hmd
   rw [j5 h2] at hmd;exact ⟨hmd,h1,h2⟩
  refine ⟨tp,[.inl a,.inl b],rfl,j1,by rw [j5 n_mt];exact j1,?_⟩;have f_tp:H tp=none:=by
   have:=htp;rw [j5 (Ne.symm n_mt)] at this;exact (((j7.upd_new hw0).trans (j7.upd_new ht0)).trans (j7.upd_new hra)).free this
  have B0:PB H (upd (upd (upd (upd (upd (upd H w0 (.lst [])) t0 (.lst [.ref w0,.int a,.int b])) ra (.lst [.ref t0])) md (.dT [])) tp (.tup [.int a,.int b])) md (.dT [([.inl a,.inl b],.bl true)])) ra md [((a,b),[])] [t0] [w0]:=by
   have n_rtp:ra≠tp:=fun z=>by rw [← z,j5 n_rm,j1] at htp;cases htp
   have n_ttp:t0≠tp:=fun z=>by rw [← z,j5 (Ne.symm f_md.2.1),j5 n_tr,j1] at htp;cases htp
   have n_wtp:w0≠tp:=fun z=>by rw [← z,j5 (Ne.symm f_md.2.2),j5 (Ne.symm f_ra.2),j5 n_wt,j1] at htp;cases htp
   refine ⟨((((((j7.upd_new hw0).upd_fresh f_t0).upd_fresh f_ra.1).upd_fresh f_md.1).upd_fresh f_tp).upd_fresh f_md.1),?_,rfl,rfl,fun i t w e h1 h2 h3=>?_,fun i w e h1 h2=>?_,j1,f_ra.1,f_md.1,fun b hb=>by rw [List.mem_singleton.mp hb];exact hw0,n_rm,fun b hb=>?_⟩
   ·rw [j5 n_rm,j5 n_rtp,j5 n_rm,j1];rfl
   ·cases i with
    | zero =>
     cases h1;cases h2;cases h3;rw [j5 (Ne.symm f_md.2.1),j5 n_ttp,j5 (Ne.symm f_md.2.1),j5 n_tr,j1]
    | succ i=>simp at h1
   ·cases i with
    | zero =>
     cases h1;cases h2;rw [j5 (Ne.symm f_md.2.2),j5 n_wtp,j5 (Ne.symm f_md.2.2),j5 (Ne.symm f_ra.2),j5 n_wt,j1];rfl
    | succ i=>simp at h1
   ·have hb:b=t0∨b=w0:=by simpa using hb
    rcases hb with rfl | rfl
    ·exact ⟨n_tr,Ne.symm f_md.2.1⟩
    ·exact ⟨Ne.symm f_ra.2,Ne.symm f_md.2.2⟩
  generalize upd (upd (upd (upd (upd (upd H w0 (.lst [])) t0 (.lst [.ref w0,.int a,.int b])) ra (.lst [.ref t0])) md (.dT [])) tp (.tup [.int a,.int b])) md (.dT [([.inl a,.inl b],.bl true)])=H0 at B0 ⊢;walk_at "w";have hW1:=PI.w1;have hW2:=PI.w2;have hd1:=PI.d1;have hd6:=PI.d6;have hsz:=PI.sz;have inR:∀ {w:List Int},jD d w→(0≤jF rss a w∧jF rss a w < rss.length)∧(0≤jF rss2 b w∧jF rss2 b w < rss2.length):=fun {w} ok=>⟨q0 hW1 ok PI.a0 PI.a1,q0 hW2 ok PI.b0 PI.b1⟩;have keyR:∀ {k j:Nat} {L:List (PK×List Int)},BIG (stP rss rss2) (a,b) d k j L→∀ e∈L,(0≤e.1.1∧e.1.1 < rss.length)∧(0≤e.1.2∧e.1.2 < rss2.length):=fun {k j L} B e he=>by
   obtain ⟨h1,h2⟩:=B.ok e he;rw [YX] at h2;have:=inR h1;rw [← h2];exact this
  have lenR:∀ {k j:Nat} {L:List (PK×List Int)},BIG (stP rss rss2) (a,b) d k j L→L.length≤rss.length * rss2.length:=fun {k j L} B=>by
   have h:=vJ (rss.length * rss2.length) (L.map fun e=>e.1.1.toNat * rss2.length+e.1.2.toNat) ?_ ?_
   ·simpa using h
   ·rw [List.nodup_iff_pairwise_ne,List.pairwise_map];have hnd:=List.nodup_iff_pairwise_ne.mp B.nd;rw [List.pairwise_map] at hnd;refine hnd.imp_of_mem fun {e f} he hf hef z=>hef ?_;obtain ⟨⟨e1,e2⟩,e3,e4⟩:=keyR B e he;obtain ⟨⟨f1,f2⟩,f3,f4⟩:=keyR B f hf;have h2:e.1.2.toNat < rss2.length:=by omega
    have h4:f.1.2.toNat < rss2.length:=by omega
    have hm:e.1.2.toNat=f.1.2.toNat:=by
     have:=congrArg (· % rss2.length) z;simpa [Nat.mul_add_mod_of_lt,Nat.add_mod,Nat.mod_eq_of_lt h2,Nat.mod_eq_of_lt h4] using this
    have hq:e.1.1.toNat=f.1.1.toNat:=by
     rw [hm] at z;have z':e.1.1.toNat * rss2.length=f.1.1.toNat * rss2.length:=by omega
     exact Nat.eq_of_mul_eq_mul_right (by omega) z'
    exact Prod.ext (by omega) (by omega)
   ·intro x hx;obtain ⟨e,he,rfl⟩:=List.mem_map.mp hx;obtain ⟨⟨e1,e2⟩,e3,e4⟩:=keyR B e he;have h1:e.1.1.toNat+1≤rss.length:=by omega
    have h2:e.1.2.toNat < rss2.length:=by omega
    calc e.1.1.toNat * rss2.length+e.1.2.toNat < e.1.1.toNat * rss2.length+rss2.length:=by omega
     _=(e.1.1.toNat+1) * rss2.length:=by rw [Nat.succ_mul]
     _≤rss.length * rss2.length:=Nat.mul_le_mul_right _ h1
  refine ⟨fun m σ H'=>∃ (k:Nat) (L:List (PK×List Int)) (ts ws:List Addr) (k9 k10 k11:Option V),m=rss.length * rss2.length - k∧k≤L.length∧BIG (stP rss rss2) (a,b) d k 0 L∧(∀ (i:Nat) (e:PK×List Int),i < k→L[i]?=some e→jh ls e.1.1=jh ls2 e.1.2)∧PB H H' ra md L ts ws ∧
   σ=[some (.ref aw),some (.ref al),some (.int a),some (.ref ao),some (.ref ol),some (.int b),some (.ref ra),some (.ref md),some (.int (k:Int)),k9,k10,k11],⟨_,0,_,[t0],[w0],none,none,none,rfl,Nat.zero_le _,BIG.start _ _ _,(fun i e hi=>absurd hi (Nat.not_lt_zero i)),B0,rfl⟩,?_⟩
  rintro m σ H1 ⟨k,L,ts,ws,k9,k10,k11,rfl,hk,BG,eqs,B,rfl⟩
  have hlen:=lenR BG;walk_at "w";refine ⟨ra,_,rfl,.inl (SqL.of B.rows),?_⟩;rw [List.length_map,B.lt];walk_at "w";refine yo (fun hc=>?_) (fun hc=>?_)
  ·have hc:k < L.length:=by have:=of_decide_eq_true hc;omega
   obtain ⟨e,he⟩:∃ e,L[k]?=some e:=⟨_,List.getElem?_eq_getElem hc⟩;obtain ⟨tk,htk⟩:∃ tk,ts[k]?=some tk:=⟨_,List.getElem?_eq_getElem (by rw [B.lt];exact hc)⟩;obtain ⟨wk,hwk⟩:∃ wk,ws[k]?=some wk:=⟨_,List.getElem?_eq_getElem (by rw [B.lw];exact hc)⟩;have htk':(ts.map V.ref)[k]?=some (.ref tk):=by rw [List.getElem?_map,htk];rfl
   obtain ⟨⟨e1,e2⟩,e3,e4⟩:=keyR BG e (List.mem_of_getElem? he);have hel:=BG.wlen k k e (Nat.le_refl _) he;have gl1:(ls.map V.bl)[e.1.1.toNat]?=some (.bl (jh ls e.1.1)):=by
    have hlt:e.1.1.toNat < ls.length:=by rw [PI.l1];omega
    unfold jh;rw [List.getElem?_map,List.getElem?_eq_getElem hlt,List.getD_eq_getElem?_getD,List.getElem?_eq_getElem hlt];rfl
   have gl2:(ls2.map V.bl)[e.1.2.toNat]?=some (.bl (jh ls2 e.1.2)):=by
    have hlt:e.1.2.toNat < ls2.length:=by rw [PI.l2];omega
    unfold jh;rw [List.getElem?_map,List.getElem?_eq_getElem hlt,List.getD_eq_getElem?_getD,List.getElem?_eq_getElem hlt];rfl
   refine ⟨fun σ' H'=>∃ (L':List (PK×List Int)) (ts ws:List Addr) (k9 k10 k11:Option V),k+1≤L'.length∧BIG (stP rss rss2) (a,b) d (k+1) 0 L'∧(∀ (i:Nat) (f:PK×List Int),i < k+1→L'[i]?=some f→jh ls f.1.1=jh ls2 f.1.2)∧PB H H' ra md L' ts ws ∧
    σ'=[some (.ref aw),some (.ref al),some (.int a),some (.ref ao),some (.ref ol),some (.int b),some (.ref ra),some (.ref md),some (.int ((k:Int)+1)),k9,k10,k11],fun σ' H' ⟨L',ts,ws,k9,k10,k11,h1,h2,h3,h4,es⟩=>⟨rss.length * rss2.length - (k+1),by omega,k+1,L',ts,ws,k9,k10,k11,rfl,h1,h2,h3,h4,by rw [es];simp⟩,?_⟩
   walk_at "w";refine ji (SqL.of B.rows) (jY (j:=k) htk') ?_;walk_at "w";refine ji (SqL.of (B.trip k tk wk e htk hwk he)) (jY (j:=1) rfl) ?_;walk_at "w";refine ji (qa B.same hL) (js e1 gl1) ?_;walk_at "w";refine ji (SqL.of B.rows) (jY (j:=k) htk') ?_;walk_at "w";refine ji (SqL.of (B.trip k tk wk e htk hwk he)) (jY (j:=2) rfl) ?_;walk_at "w";refine ji (qa B.same hL2) (js e3 gl2) ?_;refine v7 rfl ?_;walk_at "w";refine yo (fun hne=>?_) (fun heq=>?_)
   ·have hne:jh ls e.1.1≠jh ls2 e.1.2:=by intro z;rw [z] at hne;simp at hne
    walk_at "w";refine ji (SqL.of B.rows) (jY (j:=k) htk') ?_;walk_at "w";refine ji (SqL.of (B.trip k tk wk e htk hwk he)) (jY (j:=0) rfl) ?_;walk_at "w";obtain ⟨o1,o2⟩:=BG.ok e (List.mem_of_getElem? he);rw [YX] at o2;refine qs H1 wk e.2 B.same (B.word k wk e hwk he) (B.nw wk (List.mem_of_getElem? hwk)) ⟨o1,?_,fun v okv hv=>?_⟩
    ·rw [← o2] at hne;exact hne
    ·obtain ⟨i,f,hi,hL',hf,_⟩:=BG.below e he v.length v (Nat.le_refl _) okv hv;rw [YX] at hf;have:=eqs i f hi hL';rw [hf] at this;exact this
   ·have heq:jh ls e.1.1=jh ls2 e.1.2:=by simpa using heq
    walk_at "w";have h0:0 < rss.length:=by have:=PI.a0;have:=PI.a1;omega
    obtain ⟨row0,hrow0⟩:∃ row0,rss[0]?=some row0:=⟨_,List.getElem?_eq_getElem h0⟩;obtain ⟨hrl0,_⟩:=hW1.row row0 (List.mem_of_getElem? hrow0);obtain ⟨r0,_,x2,x3⟩:=(M.same B.same).get hrow0;refine ji (SqL.of (B.same _ _ M.top)) (jY (j:=0) x2) ?_;walk_at "w";refine ⟨r0,_,rfl,.inl (SqL.of x3),?_⟩;rw [List.length_map];walk_at "w";refine ⟨_,rfl,by omega,by omega,?_⟩;refine qR (fun j σ H'=>∃ (L':List (PK×List Int)) (ts ws:List Addr) (k9 k10 k11:Option V),BIG (stP rss rss2) (a,b) d k j L'∧(∀ i,i < L.length→L'[i]?=L[i]?)∧L.length≤L'.length∧PB H H' ra md L' ts ws ∧
     σ=[some (.ref aw),some (.ref al),some (.int a),some (.ref ao),some (.ref ol),some (.int b),some (.ref ra),some (.ref md),some (.int (k:Int)),k9,k10,k11]) ⟨L,ts,ws,k9,k10,k11,BG,fun _ _=>rfl,Nat.le_refl _,B,rfl⟩ (fun j σ H2 hj ⟨L',ts',ws',q9,q10,q11,BG',hpre,hle,B',hσ⟩=>?_) (fun σ H2 ⟨L',ts',ws',q9,q10,q11,BG',hpre,hle,B',hσ⟩=>?_)
    ·subst hσ;have hjd:(j:Int) < d:=by omega
     have e0:(0:Int)+(j:Int)=(j:Int):=by omega
     rw [e0];have he':L'[k]?=some e:=by rw [hpre k hc];exact he
     have hlen':=lenR BG';obtain ⟨tk',htk1⟩:∃ tk,ts'[k]?=some tk:=⟨_,List.getElem?_eq_getElem (by rw [B'.lt];omega)⟩;obtain ⟨wk',hwk1⟩:∃ wk,ws'[k]?=some wk:=⟨_,List.getElem?_eq_getElem (by rw [B'.lw];omega)⟩;have htk2:(ts'.map V.ref)[k]?=some (.ref tk'):=by rw [List.getElem?_map,htk1];rfl
     obtain ⟨row1,hr1,hv1,_,_⟩:=yT hW1 e1 e2 (x:=(j:Int)) (by omega) hjd;obtain ⟨row2,hr2,hv2,_,_⟩:=yT hW2 e3 e4 (x:=(j:Int)) (by omega) hjd;obtain ⟨ra1,_,y2,y3⟩:=(M.same B'.same).get hr1;obtain ⟨ra2,_,z2,z3⟩:=(M2.same B'.same).get hr2;walk_at "w";refine ji (SqL.of B'.rows) (jY (j:=k) htk2) ?_;walk_at "w";refine ji (SqL.of (B'.trip k tk' wk' e htk1 hwk1 he')) (jY (j:=1) rfl) ?_;walk_at "w";refine ji (SqL.of (B'.same _ _ M.top)) (js e1 y2) ?_;walk_at "w";refine ji (SqL.of y3) (js (by omega) (qL hv1)) ?_;walk_at "w";refine ji (SqL.of B'.rows) (jY (j:=k) htk2) ?_;walk_at "w";refine ji (SqL.of (B'.trip k tk' wk' e htk1 hwk1 he')) (jY (j:=2) rfl) ?_;walk_at "w";refine ji (SqL.of (B'.same _ _ M2.top)) (js e3 z2) ?_;walk_at "w";refine ji (SqL.of z3) (js (by omega) (qL hv2)) ?_;walk_at "w";generalize hto:step rss e.1.1 (j:Int)=to;generalize hgo:step rss2 e.1.2 (j:Int)=go;have hst:(to,go)=stP rss rss2 e.1 (j:Int):=by rw [← hto,← hgo];rfl
     have BA:=BG'.add he' hjd hst;refine qp (fun σ' H3=>∃ ts ws,PB H H3 ra md (yl L' e.2 j (to,go)) ts ws∧σ'=[some (.ref aw),some (.ref al),some (.int a),some (.ref ao),some (.ref ol),some (.int b),some (.ref ra),some (.ref md),some (.int (k:Int)),some (.int (j:Int)),some (.int to),some (.int go)]) ?_ (fun σ' H3 ⟨ts3,ws3,B3,es⟩=>⟨_,ts3,ws3,_,_,_,BA,fun i hi=>?_,?_,B3,es⟩)
     rotate_left
     ·unfold yl
      split
      ·exact hpre i hi
      ·rw [List.getElem?_append_left (by omega)];exact hpre i hi
     ·unfold yl
      split
      ·exact hle
      ·simp;omega
     walk_at "w";refine ⟨by show 2≤sizeLine;decide,fun tp1 htp1=>?_⟩;have B1:=B'.tick (j7.upd_new (o:=.tup [.int to,.int go]) htp1);have tp1v:(upd H2 tp1 (.tup [.int to,.int go])) tp1=some (.tup (([.inl to,.inl go]:List Key).map kV)):=j1;generalize upd H2 tp1 (.tup [.int to,.int go])=H3 at B1 tp1v ⊢;walk_at "w";refine ⟨md,_,rfl,ym.t B1.met tp1v,?_⟩;walk_at "w";refine yo (fun hin=>?_) (fun hin=>?_)
     ·have hnk:qt L' (to,go)=false:=by
       cases hz:qt L' (to,go) with
       | false=>rfl
       | true=>rw [xz hz] at hin;cases hin
      walk_at "w";refine ⟨by show 2≤sizeLine;decide,fun tp2 htp2=>?_⟩;have B2:=B1.tick (j7.upd_new (o:=.tup [.int to,.int go]) htp2);have tp2v:(upd H3 tp2 (.tup [.int to,.int go])) tp2=some (.tup (([.inl to,.inl go]:List Key).map kV)):=j1;generalize upd H3 tp2 (.tup [.int to,.int go])=H4 at B2 tp2v ⊢;refine ⟨md,_,rfl,xE.t B2.met tp2v (by unfold yj;rw [List.length_map];exact Nat.lt_of_le_of_lt (show _≤100000 by omega) (by decide)),?_⟩;rw [zI _ (vB hnk)];have rows5:(upd H4 md (.dT (yj L'++[([.inl to,.inl go],.bl true)]))) ra=some (.lst (ts'.map V.ref)):=by rw [j5 B2.ne];exact B2.rows
      have trip5:(upd H4 md (.dT (yj L'++[([.inl to,.inl go],.bl true)]))) tk'=some (.lst [.ref wk',.int e.1.1,.int e.1.2]):=by rw [j5 (B2.out tk' (List.mem_append_left _ (List.mem_of_getElem? htk1))).2];exact B2.trip k tk' wk' e htk1 hwk1 he'
      have word5:(upd H4 md (.dT (yj L'++[([.inl to,.inl go],.bl true)]))) wk'=some (.lst (e.2.map V.int)):=by rw [j5 (B2.out wk' (List.mem_append_right _ (List.mem_of_getElem? hwk1))).2];exact B2.word k wk' e hwk1 he'
      have addB:=fun H9 p2 t2=>PB.add (H3:=H9) (p2:=p2) (t2:=t2) (e:=((to,go),e.2++[(j:Int)])) B2;generalize upd H4 md (.dT (yj L'++[([.inl to,.inl go],.bl true)]))=H5 at rows5 trip5 word5 addB ⊢;walk_at "w";refine ⟨.inl ⟨rfl,_,SqL.of rows5⟩,?_⟩;walk_at "w";refine ji (SqL.of rows5) (jY (j:=k) htk2) ?_;walk_at "w";refine ji (SqL.of trip5) (jY (j:=0) rfl) ?_;walk_at "w";refine ⟨by show 1≤sizeLine;decide,fun p1 hp1=>?_⟩;have s1:=j7.upd_new (o:=.lst [.int (j:Int)]) hp1;refine ⟨wk',p1,_,_,rfl,rfl,s1 _ _ word5,j1,(by rw [List.length_map];show e.2.length+1≤sizeLine;exact Nat.le_trans (show _≤200000 by omega) (by decide)),fun p2 hp2=>?_⟩;have s2:=s1.trans (j7.upd_new (o:=.lst (e.2.map V.int++[.int (j:Int)])) hp2);have hp2':=s1.free hp2;have hp2v:(upd (upd H5 p1 (.lst [.int (j:Int)])) p2 (.lst (e.2.map V.int++[.int (j:Int)]))) p2=some (.lst ((e.2++[(j:Int)]).map V.int)):=by rw [j1];simp
      generalize upd (upd H5 p1 (.lst [.int (j:Int)])) p2 (.lst (e.2.map V.int++[.int (j:Int)]))=H6 at s2 hp2v ⊢;walk_at "w";refine ⟨by show 3≤sizeLine;decide,fun t2 ht2=>?_⟩;have s3:=s2.trans (j7.upd_new (o:=.lst [.ref p2,.int to,.int go]) ht2);have ht2':=s2.free ht2;walk_at "w";refine ⟨ra,_,_,rfl,rfl,s3 _ _ rows5,(by rw [List.length_map,B2.lt];exact Nat.lt_of_le_of_lt (show _≤100000 by omega) (by decide)),?_⟩;refine ⟨ts'++[t2],ws'++[p2],?_,rfl⟩;unfold yl;rw [if_neg (by rw [hnk];decide)];exact addB _ p2 t2 s3 hp2' ht2' (by rw [j5 (jA hp2v ht2)];exact hp2v) j1
     ·have hyk:qt L' (to,go)=true:=by
       cases hz:qt L' (to,go) with
       | true=>rfl
       | false=>rw [vB hz] at hin;cases hin
      walk_at "w";refine ⟨ts',ws',?_,rfl⟩;unfold yl;rw [if_pos hyk];exact B1
    ·subst hσ;walk_at "w";have hjd:((row0.length:Nat):Int).toNat=d.toNat:=by omega
     rw [hjd] at BG';refine ⟨L',ts',ws',_,_,_,by omega,BG'.next,fun i f hi hf=>?_,B',rfl⟩;rw [hpre i (by omega)] at hf;rcases Nat.lt_or_ge i k with h | h
     ·exact eqs i f h hf
     ·have:i=k:=by omega
      subst this;rw [he] at hf;cases hf;exact heq
  ·have hc:¬ ((k:Int) < (L.length:Int)):=of_decide_eq_false hc;have hkl:k=L.length:=by omega
   subst hkl;walk_at "w";refine qn H1 B.same fun w ok=>?_;obtain ⟨f,hf,hk,_⟩:=BG.all w.length w (Nat.le_refl _) ok;rw [YX] at hk;obtain ⟨i,hi⟩:=List.getElem?_of_mem hf;have:=eqs i f (List.getElem?_eq_some_iff.mp hi).1 hi;rw [hk] at this;exact this
theorem kq:jM ["ways","words","met","k","door","room"] ["ways"] (j2 Q6):=⟨rfl,rfl,rfl,by decide +kernel,rfl,by decide +kernel,by decide +kernel⟩
theorem j10 (T:Txt K mg t):jd K t.fd_zM ["ways"] []:=T.F_zM.binds fun _ _ _ _ _ _ us hl=>by obtain ⟨_,rfl⟩:=zf hl;rfl
def v9 (L:List Ent):List (Key×V):=L.map fun e=>((.inl e.1:Key),V.bl true)
theorem kA (r:Int):∀ L:List Ent,(yK (v9 L) (.inl r:Key)).isSome=zL L r
 | []=>rfl
 | e :: L=>by
  show (yK (((Sum.inl e.1:Key),V.bl true) :: v9 L) (.inl r)).isSome=_
  by_cases h:e.1=r
  ·rw [yU (by rw [← h])];simp [zL,h]
  ·rw [yM (fun z=>h (Sum.inl.inj z)),kA r L];simp [zL,h]
def W6 (K:PySem.W.Frag):Sp:=fun vs H Q _=>∃ (aw:Addr) (rs:List Addr) (rss:List (List Int)) (d:Int),vs=[.ref aw]∧Mat H aw rs rss∧Ways d rss∧0 < rss.length∧rss.length≤400∧1≤d∧d≤6 ∧
 (∀ H' wa wA,j7 H H'→H' wa=some (.lst (wA.map V.ref))→LsAt V.int H' wA ((bfs rss).map Prod.snd)→(∀ b∈wa :: wA,H b=none)→Q (.ref wa) H')
structure LW (H H':Hp) (wa md:Addr) (wA:List Addr) (L:List Ent):Prop where
 same:j7 H H'
 ws:H' wa=some (.lst (wA.map V.ref))
 ww:LsAt V.int H' wA (L.map Prod.snd)
 met:H' md=some (.dK (v9 L))
 new:∀ b,b=md∨b∈wa :: wA→H b=none
 n1:wa∉wA
 n2:md∉wA
theorem LW.tick {H H' H2:Hp} {wa md:Addr} {wA:List Addr} {L:List Ent} (w:LW H H' wa md wA L) (s:j7 H' H2):LW H H2 wa md wA L :=
 ⟨w.same.trans s,s _ _ w.ws,w.ww.keep fun b _ o e=>s b o e,s _ _ w.met,w.new,w.n1,w.n2⟩
theorem wV (T:Txt K mg t):qE P w K mg base CX0 2 t.f_zM t.fd_zM ["ways"] (W6 K):=by
 refine T.F_zM.ok kq (fun vs H Q E h=>?_) (fun cdv A outer s H vs Q E hr h=>?_)
 ·obtain ⟨aw,rs,rss,d,rfl,_⟩:=h;rfl
 ·obtain ⟨aw,rs,rss,d,rfl,M,Wy,h0,h400,hd1,hd6,q⟩:=h;refine exO (kl (jH (i:=1) kq.nd rfl (Or.inl rfl) (jg (j0 (jg (j4)) (j4))))
 (YO (i:=2) kq.nd rfl (Or.inl rfl) (jG) (yQ)
 (j3 (qC PassesOwn.never rfl (qI rfl T.m_range (j0 (jI (jB K) rfl T.m_len PySem.boot_len (j0 (pv 0) (j4))) (j4))) (jL (i:=3) kq.nd rfl (Or.inl rfl))
 (j6 (qC PassesOwn.never rfl (qI rfl T.m_range (j0 (jI (jB K) rfl T.m_len PySem.boot_len (j0 (jb (jE K) (pv 0) (jG) (fun _ _=>rfl)) (j4))) (j4))) (jL (i:=4) kq.nd rfl (Or.inl rfl))
 (j6 (qV (jz (jX xf (pv 3) (jI (jB K) rfl T.m_len PySem.boot_len (j0 (pv 1) (j4))) (je _))
 (j3 (jH (i:=5) kq.nd rfl (Or.inl rfl) (jK (Ye T) (hr.mono (by decide)) rfl T.mg_zs T.F_zs.kp (Xq T) .nil jP (j0 (pv 0) (j0 (jG) (j0 (jq qw (jb (jE K) (pv 1) (pv 3) (fun _ _=>rfl)) (jg (j0 (pv 4) (j4)))) (j4))))))
 (j6 (qV (jz (v4 (vn hr.units1 (pv 5) (pv 2)))
 (j3 (vO hr.units1 (pv 2) (pv 5) (yQ) rfl)
 (j6 (jZ (qc K PySem.F.plainAttrs_list PySem.F.slot_list_append PySem.F.type_list_append jj (pv 1) (j0 (jq qw (jb (jE K) (pv 1) (pv 3) (fun _ _=>rfl)) (jg (j0 (pv 4) (j4)))) (j4))))))
 (jS)))))
 (jS)))))))
 (j6 (jO (pv 1)))))) ?_
  walk_at "w";refine ⟨Nat.zero_le _,fun w0 hw0=>?_⟩;have s1:j7 H (upd H w0 (.lst [])):=j7.upd_new hw0;have w01:(upd H w0 (.lst [])) w0=some (.lst (([]:List Int).map V.int)):=j1;generalize upd H w0 (.lst [])=H1 at s1 w01 ⊢;walk_at "w";refine ⟨by show 1≤sizeLine;decide,fun wa hwa=>?_⟩;have s2:j7 H1 (upd H1 wa (.lst [.ref w0])):=j7.upd_new hwa;have wa2:(upd H1 wa (.lst [.ref w0])) wa=some (.lst ([w0].map V.ref)):=j1;have nw:wa≠w0:=fun z=>by rw [z,w01] at hwa;cases hwa
  generalize upd H1 wa (.lst [.ref w0])=H2 at s2 wa2 ⊢;have hwaH:H wa=none:=s1.free hwa;walk_at "w";intro md hmd;show tC _ _ _ _;walk_at "w";refine ⟨j1,[(.inl 0,.bl true)],rfl,(by show 1≤15;decide),?_⟩;have e3:vh [] [((.inl 0:Key),V.bl true)]=v9 [(0,[])]:=rfl;rw [e3,yr];have s3:j7 H2 (upd H2 md (.dK (v9 [(0,[])]))):=j7.upd_new hmd;have md3:(upd H2 md (.dK (v9 [(0,[])]))) md=some (.dK (v9 [(0,[])])):=j1;have hmdH:H md=none:=(s1.trans s2).free hmd;have nmw:md≠w0:=fun z=>by rw [z,s2 _ _ w01] at hmd;cases hmd
  have B0:LW H (upd H2 md (.dK (v9 [(0,[])]))) wa md [w0] (qq rss 0):=by
   refine ⟨s1.trans (s2.trans s3),s3 _ _ wa2,⟨rfl,fun i b v h1 h2=>?_⟩,md3,fun b hb=>?_,by simp [nw],by simp [nmw]⟩
   ·cases i with
    | zero=>cases h1;cases h2;exact s3 _ _ (s2 _ _ w01)
    | succ i=>simp at h1
   ·rcases hb with rfl | hb
    ·exact hmdH
    ·rcases List.mem_cons.mp hb with rfl | hb
     ·exact hwaH
     ·rw [List.mem_singleton.mp hb];exact hw0
  generalize upd H2 md (.dK (v9 [(0,[])]))=H3 at B0 ⊢;clear s1 s2 s3 w01 wa2 md3;obtain ⟨row0,hrow0⟩:∃ row0,rss[0]?=some row0:=⟨_,List.getElem?_eq_getElem h0⟩;have hr0l:(row0.length:Int)=d:=(Wy.row row0 (List.mem_of_getElem? hrow0)).1;walk_at "w";refine ⟨aw,_,rfl,.inl (SqL.of (B0.same _ _ M.top)),?_⟩;have eM:(rs.map V.ref).length=rss.length:=by rw [List.length_map,M.len]
  rw [eM];walk_at "w";refine ⟨_,rfl,by omega,by omega,?_⟩;refine qR (fun k σ H'=>∃ wA k3 k4 k5,LW H H' wa md wA (qq rss k)∧σ=[some (.ref aw),some (.ref wa),some (.ref md),k3,k4,k5]) ⟨[w0],_,_,_,B0,rfl⟩ (fun k σ H4 hk pp=>?_) (fun σ H4 pp=>?_)
  ·obtain ⟨wA,k3,k4,k5,B,rfl⟩:=pp;have e0:(0:Int)+(k:Int)=(k:Int):=by omega
   rw [e0];have hk':k < rss.length:=by omega
   obtain ⟨r0,_,r0b,r0c⟩:=(M.same B.same).get hrow0;walk_at "w";refine ji (SqL.of (B.same _ _ M.top)) (jY (j:=0) r0b) ?_;walk_at "w";refine ⟨r0,_,rfl,.inl (SqL.of r0c),?_⟩;rw [List.length_map];walk_at "w";refine ⟨_,rfl,by omega,by omega,?_⟩
   by_cases hkl:k < (qq rss k).length
   ·have BK:=vU Wy h0 k (by omega);obtain ⟨e,he⟩:∃ e,(qq rss k)[k]?=some e:=⟨_,List.getElem?_eq_getElem hkl⟩;have hek:=BK.keys Wy h0 e (List.mem_of_getElem? he);have hew:=(BK.ok e (List.mem_of_getElem? he));have hel:=BK.wlen k k e (Nat.le_refl _) he;have hrl:=Vf Wy hek.1 hek.2;have hnext:qq rss (k+1)=rowK (qq rss k) e.2 (rss.getD e.1.toNat []) d.toNat:=by
     show vz rss (qq rss k) k=_;unfold vz;rw [he];dsimp only;congr 1;omega
    rw [hnext];refine qR (fun j σ H'=>∃ wA k4 k5,LW H H' wa md wA (rowK (qq rss k) e.2 (rss.getD e.1.toNat []) j)∧σ=[some (.ref aw),some (.ref wa),some (.ref md),some (.int (k:Int)),k4,k5]) ⟨wA,_,_,B,rfl⟩ (fun j σ H5 hj pp=>?_) (fun σ H5 pp=>?_)
    ·obtain ⟨wA5,k4,k5,B5,rfl⟩:=pp;have e0:(0:Int)+(j:Int)=(j:Int):=by omega
     rw [e0];have hjd:(j:Int) < d:=by omega
     have BJ:=BK.rowK Wy h0 he (j:=j) (by omega);have hBl:=BJ.len Wy h0;have hge:=xt (w:=e.2) (row:=rss.getD e.1.toNat []) he j;have hgs:((rowK (qq rss k) e.2 (rss.getD e.1.toNat []) j).map Prod.snd)[k]?=some e.2:=by rw [List.getElem?_map,hge];rfl
     have hlen5:(wA5.map V.ref).length=(rowK (qq rss k) e.2 (rss.getD e.1.toNat []) j).length:=by rw [List.length_map,B5.ww.len,List.length_map]
     have hkl5:k < (rowK (qq rss k) e.2 (rss.getD e.1.toNat []) j).length:=(List.getElem?_eq_some_iff.mp hge).1;have hstep:(rss.getD e.1.toNat []).getD j 0=jF rss 0 (e.2++[(j:Int)]):=by
      rw [qO,hew.2];unfold step;rw [Int.toNat_natCast]
     have hrk:rowK (qq rss k) e.2 (rss.getD e.1.toNat []) (j+1)=yC (rowK (qq rss k) e.2 (rss.getD e.1.toNat []) j) e.2 j ((rss.getD e.1.toNat []).getD j 0):=rfl;rw [hrk,hstep];generalize rowK (qq rss k) e.2 (rss.getD e.1.toNat []) j=L at B5 BJ hBl hge hgs hlen5 hkl5;obtain ⟨wk,wk1,wk2,wk3⟩:=B5.ww.get hgs;have hwo:jD d (e.2++[(j:Int)]):=vK hew.1 fun x hx=>by rw [List.mem_singleton.mp hx];omega
     walk_at "w";refine qp (fun σ' H'=>∃ wA k4 k5,LW H H' wa md wA (yC L e.2 j (jF rss 0 (e.2++[(j:Int)])))∧σ'=[some (.ref aw),some (.ref wa),some (.ref md),some (.int (k:Int)),k4,k5]) ?_ (fun σ' H' z=>z);walk_at "w";refine ⟨wa,_,rfl,.inl (SqL.of B5.ws),?_⟩;rw [hlen5];walk_at "w";refine qK (decide_eq_true (by omega)) ?_;walk_at "w";have catW:∀ {Hx:Hp} {R:VK},LW H Hx wa md wA5 L→(∀ c2 H',Hx c2=none→j7 Hx H'→H' c2=some (.lst ((e.2++[(j:Int)]).map V.int))→R (.ref c2) H')→True:=fun _ _=>trivial;clear catW;refine ji (SqL.of B5.ws) (jY (j:=k) wk2) ?_;walk_at "w";refine ⟨by show 1≤sizeLine;decide,fun c1 hc1=>?_⟩;have s6:j7 H5 (upd H5 c1 (.lst [.int (j:Int)])):=j7.upd_new hc1;have c16:(upd H5 c1 (.lst [.int (j:Int)])) c1=some (.lst [.int (j:Int)]):=j1;generalize upd H5 c1 (.lst [.int (j:Int)])=H6 at s6 c16 ⊢;refine ⟨wk,c1,_,_,rfl,rfl,s6 _ _ wk3,c16,Nat.le_of_lt (qj (by simp;omega)),fun c2 hc2=>?_⟩;have ec2:e.2.map V.int++[V.int (j:Int)]=(e.2++[(j:Int)]).map V.int:=by rw [List.map_append];rfl
     rw [ec2];have s7:j7 H6 (upd H6 c2 (.lst ((e.2++[(j:Int)]).map V.int))):=j7.upd_new hc2;have c27:(upd H6 c2 (.lst ((e.2++[(j:Int)]).map V.int))) c2=some (.lst ((e.2++[(j:Int)]).map V.int)):=j1;generalize upd H6 c2 (.lst ((e.2++[(j:Int)]).map V.int))=H7 at s7 c27 ⊢;have B7:=B5.tick (s6.trans s7);walk_at "w";refine ⟨aw,rs,rss,d,0,c2,_,rfl,M.same B7.same,Wy,SqL.of c27,hwo,by omega,by omega,?_⟩;walk_at "w";refine qp (fun σ' H'=>∃ wA k4 k5,LW H H' wa md wA (yC L e.2 j (jF rss 0 (e.2++[(j:Int)])))∧σ'=[some (.ref aw),some (.ref wa),some (.ref md),some (.int (k:Int)),k4,k5]) ?_ (fun σ' H' z=>z);walk_at "w";refine ⟨md,_,rfl,ym.k (k:=.inl (jF rss 0 (e.2++[(j:Int)]))) B7.met,?_⟩;rw [kA]
     walk_at "w";by_cases hh:zL L (jF rss 0 (e.2++[(j:Int)]))=true
     ·refine jU (by rw [hh];rfl) ?_;walk_at "w";unfold yC;rw [if_pos hh];exact ⟨wA5,_,_,B7,rfl⟩
     ·have hh':zL L (jF rss 0 (e.2++[(j:Int)]))=false:=by simpa using hh
      refine qK (by rw [hh'];rfl) ?_;unfold yC;rw [if_neg hh];walk_at "w";refine ⟨md,_,rfl,xE.k (k:=.inl (jF rss 0 (e.2++[(j:Int)]))) B7.met (by unfold v9;rw [List.length_map];exact qj (by omega)),?_⟩;rw [zI _ (by have:=kA (jF rss 0 (e.2++[(j:Int)])) L;rw [hh'] at this;simpa using this)];have k8:∀ b o,b≠md→H7 b=some o→upd H7 md (.dK (v9 L++[((.inl (jF rss 0 (e.2++[(j:Int)])):Key),V.bl true)])) b=some o:=fun b o hb e=>by rw [j5 hb];exact e
      have md8:upd H7 md (.dK (v9 L++[((.inl (jF rss 0 (e.2++[(j:Int)])):Key),V.bl true)])) md=some (.dK (v9 (L++[(jF rss 0 (e.2++[(j:Int)]),e.2++[(j:Int)])]))):=by rw [j1];unfold v9;rw [List.map_append];rfl
      generalize upd H7 md (.dK (v9 L++[((.inl (jF rss 0 (e.2++[(j:Int)])):Key),V.bl true)]))=H8 at k8 md8 ⊢;have nml:∀ b xs,H7 b=some (.lst xs)→b≠md:=fun b xs e=>vR e B7.met (fun z=>nomatch z);have wk8:=k8 _ _ (nml _ _ (s7 _ _ (s6 _ _ wk3))) (s7 _ _ (s6 _ _ wk3));have wa8:=k8 _ _ (nml _ _ B7.ws) B7.ws;walk_at "w";refine ⟨.inl ⟨rfl,_,SqL.of wa8⟩,?_⟩;walk_at "w";refine ji (SqL.of wa8) (jY (j:=k) wk2) ?_;walk_at "w";refine ⟨by show 1≤sizeLine;decide,fun d1 hd1'=>?_⟩;have s9:j7 H8 (upd H8 d1 (.lst [.int (j:Int)])):=j7.upd_new hd1';have d19:(upd H8 d1 (.lst [.int (j:Int)])) d1=some (.lst [.int (j:Int)]):=j1;generalize upd H8 d1 (.lst [.int (j:Int)])=H9 at s9 d19 ⊢;refine ⟨wk,d1,_,_,rfl,rfl,s9 _ _ wk8,d19,Nat.le_of_lt (qj (by simp;omega)),fun d2 hd2=>?_⟩;rw [ec2];have s10:j7 H9 (upd H9 d2 (.lst ((e.2++[(j:Int)]).map V.int))):=j7.upd_new hd2;have d210:(upd H9 d2 (.lst ((e.2++[(j:Int)]).map V.int))) d2=some (.lst ((e.2++[(j:Int)]).map V.int)):=j1;have nd2:d2≠wa:=fun z=>by rw [z,s9 _ _ wa8] at hd2;cases hd2
      have nd3:d2≠md:=fun z=>by rw [z,s9 _ _ md8] at hd2;cases hd2
      generalize upd H9 d2 (.lst ((e.2++[(j:Int)]).map V.int))=H10 at s10 d210 ⊢;have s810:=s9.trans s10;have nwm:wa≠md:=nml _ _ B7.ws;walk_at "w";refine ⟨wa,_,_,rfl,rfl,s810 _ _ wa8,qj (by rw [hlen5];omega),?_⟩;have hnH:∀ b,H9 b=none→H b=none:=fun b e=>by
       cases hh:H b with
       | none=>rfl
       | some o =>
        have nb:b≠md:=fun z=>by rw [z,B7.new md (.inl rfl)] at hh;cases hh
        rw [s9 _ _ (k8 b o nb (B7.same b o hh))] at e;cases e
      refine ⟨wA5++[d2],_,_,⟨fun b o e=>?_,by rw [j1,List.map_append];rfl,?_,by rw [j5 (Ne.symm nwm)];exact s810 _ _ md8,fun b hb=>?_,?_,?_⟩,rfl⟩
      ·have n1:b≠wa:=fun z=>by rw [z,B7.new wa (.inr List.mem_cons_self)] at e;cases e
       have n2:b≠md:=fun z=>by rw [z,B7.new md (.inl rfl)] at e;cases e
       rw [j5 n1];exact s810 _ _ (k8 b o n2 (B7.same b o e))
      ·rw [List.map_append];refine LsAt.snoc (B7.ww.keep fun b hb o e=>?_) (by rw [j5 nd2];exact d210);have n1:b≠wa:=fun z=>B7.n1 (by rw [← z];exact hb);have n2:b≠md:=fun z=>B7.n2 (by rw [← z];exact hb);rw [j5 n1];exact s810 _ _ (k8 b o n2 e)
      ·rcases hb with rfl | hb
       ·exact B7.new _ (.inl rfl)
       ·rcases List.mem_cons.mp hb with rfl | hb
        ·exact B7.new _ (.inr List.mem_cons_self)
        ·rcases List.mem_append.mp hb with hb | hb
         ·exact B7.new b (.inr (List.mem_cons_of_mem _ hb))
         ·rw [List.mem_singleton.mp hb];exact hnH _ hd2
      ·intro z;rcases List.mem_append.mp z with z | z
       ·exact B7.n1 z
       ·exact nd2 (List.mem_singleton.mp z).symm
      ·intro z;rcases List.mem_append.mp z with z | z
       ·exact B7.n2 z
       ·exact nd3 (List.mem_singleton.mp z).symm
    ·obtain ⟨wA5,k4,k5,B5,rfl⟩:=pp;have ed:((row0.length:Int)).toNat=d.toNat:=by omega
     rw [ed] at B5;exact ⟨wA5,_,_,_,B5,rfl⟩
   ·have hstop:qq rss (k+1)=qq rss k:=by
     have:=ve (rss:=rss) (k:=k) (by omega) 1;exact this
    rw [hstop];have hlen4:(wA.map V.ref).length=(qq rss k).length:=by rw [List.length_map,B.ww.len,List.length_map]
    refine qR (fun j σ H'=>H4=H'∧∃ k4 k5,σ=[some (.ref aw),some (.ref wa),some (.ref md),some (.int (k:Int)),k4,k5]) ⟨rfl,_,_,rfl⟩ (fun j σ H5 hj pp=>?_) (fun σ H5 pp=>?_)
    ·obtain ⟨rfl,k4,k5,rfl⟩:=pp;walk_at "w";refine qp (fun σ' H'=>H4=H'∧∃ k4 k5,σ'=[some (.ref aw),some (.ref wa),some (.ref md),some (.int (k:Int)),k4,k5]) ?_ (fun σ' H' z=>z);walk_at "w";refine ⟨wa,_,rfl,.inl (SqL.of B.ws),?_⟩;rw [hlen4];walk_at "w";refine jU (decide_eq_false (by omega)) ?_;walk_at "w";exact ⟨rfl,_,_,rfl⟩
    ·obtain ⟨rfl,k4,k5,rfl⟩:=pp;exact ⟨wA,_,_,_,B,rfl⟩
  ·obtain ⟨wA,k3,k4,k5,B,rfl⟩:=pp;rw [Int.toNat_natCast] at B;walk_at "w";exact q H4 wa wA B.same B.ws B.ww fun b hb=>B.new b (.inr hb)
theorem Qi:jM ["ways","lamps","kept","word","room","alike"] ["ways","lamps"] (j2 kO):=⟨rfl,rfl,rfl,by decide +kernel,rfl,by decide +kernel,by decide +kernel⟩
theorem j1B (T:Txt K mg t):jd K t.fd_zn ["ways","lamps"] []:=T.F_zn.binds fun _ _ _ _ _ _ us hl=>by obtain ⟨_,_,rfl⟩:=y4 hl;rfl
def j0b (K:PySem.W.Frag):Sp:=fun vs H Q _=>∃ (aw al:Addr) (rs:List Addr) (rss:List (List Int)) (ls:List Bool) (d:Int),vs=[.ref aw,.ref al]∧Mat H aw rs rss∧H al=some (.lst (ls.map V.bl))∧Ways d rss∧0 < rss.length∧rss.length≤300∧ls.length=rss.length∧1≤d∧d≤6 ∧
 (∀ H' kept,j7 H H'→zZ d rss ls kept→Q (.int (kept.length:Nat)) H')
theorem wJ (T:Txt K mg t):qE P w K mg base CX0 3 t.f_zn t.fd_zn ["ways","lamps"] (j0b K):=by
 refine T.F_zn.ok Qi (fun vs H Q E h=>?_) (fun cdv A outer s H vs Q E hr h=>?_)
 ·obtain ⟨aw,al,rs,rss,ls,d,rfl,_⟩:=h;rfl
 ·obtain ⟨aw,al,rs,rss,ls,d,rfl,M,hL,Wy,h0,h300,hll,hd1,hd6,q⟩:=h;refine ⟨_,j3 (jH (i:=2) Qi.nd rfl (Or.inl rfl) (jg (j4)))
 (j3 (qC PassesOwn.never rfl (jp K (jK (wV T) (hr.mono (by decide)) rfl T.mg_zM T.F_zM.kp (j10 T) .nil jP (j0 (pv 0) (j4)))) (jL (i:=3) Qi.nd rfl (Or.inl rfl))
 (j3 (jH (i:=4) Qi.nd rfl (Or.inr rfl) (jK (Ye T) (hr.mono (by decide)) rfl T.mg_zs T.F_zs.kp (Xq T) .nil jP (j0 (pv 0) (j0 (jG) (j0 (pv 3) (j4))))))
 (j3 (Vp (i:=5) (N:=["ways","lamps","kept","word","room","alike"]) (sc0:=(j2 kO)) (N':=["k","lamps","room","ways"]) (caps:=[none,some 1,some 4,some 0]) (by exact ⟨rfl,by decide +kernel,by decide +kernel,by decide +kernel,rfl,rfl,by decide +kernel⟩) rfl Qi.nd rfl (Or.inl rfl) (jp K (pv 2)) (fun _ _ _ _ _ _=>jL (i:=0) (show List.Nodup (["k","lamps","room","ways"]:List Str) from by decide +kernel) rfl (Or.inl rfl)) (fun _ _ _ _ _ _=>jX xb (jK (Zo T) (hr.mono (by decide)) rfl T.mg_zt T.F_zt.kp (UU T) .nil jP (j0 (pv 3) (j0 (pv 1) (j0 (pv 0) (j0 (pv 3) (j0 (pv 1) (j0 (pv 2) (j4)))))))) (qf) (je _)) (fun _ _ _ _ _ _=>pv 0))
 (j6 (qV (jz (jX Qe (jI (jB K) rfl T.m_len PySem.boot_len (j0 (pv 5) (j4))) (jG) (je _))
 (j6 (jZ (qc K PySem.F.plainAttrs_list PySem.F.slot_list_append PySem.F.type_list_append jj (pv 2) (j0 (pv 4) (j4)))))
 (jS)))))))
 (j6 (jO (jI (jB K) rfl T.m_len PySem.boot_len (j0 (pv 2) (j4)))))),?_⟩
  walk_at "w";refine ⟨Nat.zero_le _,fun ka hka=>?_⟩;have s1:j7 H (upd H ka (.lst [])):=j7.upd_new hka;have ka1:(upd H ka (.lst [])) ka=some (.lst (([]:List Int).map V.int)):=j1;generalize upd H ka (.lst [])=H1 at s1 ka1 ⊢;walk_at "w";refine ⟨aw,rs,rss,d,rfl,M.same s1,Wy,h0,by omega,hd1,hd6,fun H2 wa wA s2 wa2 lw2 new2=>?_⟩;have s02:=s1.trans s2;have nka:ka≠wa:=fun z=>by have:=new2 wa List.mem_cons_self;rw [← z,ka1] at this;cases this
  have nkA:ka∉wA:=fun z=>by have:=new2 ka (List.mem_cons_of_mem _ z);rw [ka1] at this;cases this
  have BF:=Jr Wy h0;have hwl:wA.length=(bfs rss).length:=by rw [lw2.len,List.length_map]
  refine ⟨wa,rfl,⟨_,SqL.of wa2⟩,?_⟩;refine qT (xs:=wA.map V.ref) (fun i σ H'=>(∀ b o,b≠ka→H2 b=some o→H' b=some o)∧∃ (kept:List Int) (k3 k4 k5:Option V),H' ka=some (.lst (kept.map V.int))∧(∀ k∈kept,∃ w,jD d w∧jF rss 0 w=k)∧kept.Pairwise (fun a b=>¬ qz d rss ls a b)∧(∀ e∈(bfs rss).take i,∃ k∈kept,qz d rss ls k e.1)∧kept.length≤i∧σ=[some (.ref aw),some (.ref al),some (.ref ka),k3,k4,k5])
   ⟨fun b o _ e=>e,[],_,_,_,s2 _ _ ka1,by simp,List.Pairwise.nil,by simp,by simp,rfl⟩ (fun i σ H' _ pp=>SqL.of (pp.1 _ _ (Ne.symm nka) wa2)) (fun i x σ H3 hx pp=>?_) (fun σ H3 pp=>?_)
  ·obtain ⟨k23,kept,k3,k4,k5,ka3,rc,dis,cov,hkl,rfl⟩:=pp;have hx0:=jc hx;clear hx;obtain ⟨wd,rfl,hwd⟩:=hx0;have hi:i < (bfs rss).length:=by rw [← hwl];exact (List.getElem?_eq_some_iff.mp hwd).1
   have he:=List.getElem?_eq_getElem hi;obtain ⟨hew,her⟩:=BF.ok _ (List.getElem_mem hi);have hev:H2 wd=some (.lst (((bfs rss)[i]).2.map V.int)):=lw2.row i wd _ hwd (by rw [List.getElem?_map,he];rfl);have hBl:=BF.len Wy h0;generalize (bfs rss)[i]=e at he hew her hev;have nwd:wd≠ka:=fun z=>nkA (by rw [← z];exact List.mem_of_getElem? hwd);have s03:∀ b o,H b=some o→H3 b=some o:=fun b o e=>k23 b o (fun z=>by rw [z,hka] at e;cases e) (s02 b o e);have M3:Mat H3 aw rs rss:=M.same s03;have hr:=q0 Wy hew (Int.le_refl 0) (by omega);rw [her] at hr;walk_at "w";refine ⟨aw,rs,rss,d,0,wd,e.2,rfl,M3,Wy,SqL.of (k23 _ _ nwd hev),hew,by omega,by omega,?_⟩;rw [her];walk_at "w";refine ⟨ka,rfl,⟨_,SqL.of ka3⟩,?_⟩;refine Y7 (xs:=kept.map V.int) (fun acc j ys H'=>j7 H3 H'∧H' acc=some (.lst ys)∧∃ ks:List Int,ys=ks.map V.int∧ks.length≤j∧(∀ k∈ks,k∈kept∧qz d rss ls k e.1)∧∀ k∈kept.take j,qz d rss ls k e.1→k∈ks) (fun acc hacc=>⟨j7.upd_new hacc,j1,[],rfl,by simp,by simp,by simp⟩) (fun acc j ys H' hacc _ pp=>SqL.of (pp.1 _ _ ka3)) (fun acc j x ys H4 hacc hx pp=>?_) (fun acc ys H4 hacc pp=>?_)
   ·obtain ⟨s4,ac4,ks,rfl,hkl4,h1,h2⟩:=pp;have hx0:=qm hx;clear hx;obtain ⟨k,rfl,hk⟩:=hx0;have hkm:=List.mem_of_getElem? hk;have hjl:=(List.getElem?_eq_some_iff.mp hk).1;obtain ⟨wk,hwk,ewk⟩:=rc k hkm;have hkr:=q0 Wy hwk (Int.le_refl 0) (by omega);rw [ewk] at hkr;have M4:Mat H4 aw rs rss:=M3.same s4;have al4:H4 al=some (.lst (ls.map V.bl)):=s4 _ _ (s03 _ _ hL);have PI:Jn d rss rss ls ls k e.1:=⟨Wy,Wy,hll,hll,hkr.1,hkr.2,hr.1,hr.2,hd1,hd6,by
     have:=Nat.mul_le_mul h300 h300;omega⟩
    walk_at "w";refine ⟨Wk.set rfl,?_⟩;walk_at "w";refine ⟨aw,rs,rss,al,ls,k,aw,rs,rss,al,ls,e.1,d,rfl,M4,SqL.of al4,M4,SqL.of al4,PI,fun H5 s5 hal=>?_,fun H5 pw w s5 hpw hpn hP=>?_⟩
    ·walk_at "w";refine ⟨rfl,?_⟩;walk_at "w";refine qK rfl ?_;walk_at "w";refine ⟨s5 _ _ ac4,qj (by rw [List.length_map];omega),fun b o e'=>?_,j1,ks++[k],by rw [List.map_append];rfl,by simp;omega,fun y hy=>?_,fun y hy ha=>?_⟩
     ·rw [j5 (jA e' hacc)];exact s5 _ _ (s4 _ _ e')
     ·rcases List.mem_append.mp hy with hy | hy
      ·exact h1 y hy
      ·rw [List.mem_singleton.mp hy];exact ⟨hkm,hal⟩
     ·rw [jn hk] at hy;rcases List.mem_append.mp hy with hy | hy
      ·exact List.mem_append_left _ (h2 y hy ha)
      ·exact List.mem_append_right _ hy
    ·walk_at "w";refine ⟨rfl,?_⟩;walk_at "w";refine jU rfl ?_;refine ⟨s4.trans s5,s5 _ _ ac4,ks,rfl,by omega,h1,fun y hy ha=>?_⟩;rw [jn hk] at hy;rcases List.mem_append.mp hy with hy | hy
     ·exact h2 y hy ha
     ·rw [List.mem_singleton.mp hy] at ha;exact absurd (ha w hP.ok) hP.un
   ·obtain ⟨s4,ac4,ks,rfl,hkl4,h1,h2⟩:=pp;rw [List.length_map,List.take_length] at h2;have ka4:=s4 _ _ ka3;walk_at "w";refine qp (fun σ' H'=>(∀ b o,b≠ka→H2 b=some o→H' b=some o)∧∃ (kept:List Int) (k3 k4 k5:Option V),H' ka=some (.lst (kept.map V.int))∧(∀ k∈kept,∃ w,jD d w∧jF rss 0 w=k)∧kept.Pairwise (fun a b=>¬ qz d rss ls a b)∧(∀ e∈(bfs rss).take (i+1),∃ k∈kept,qz d rss ls k e.1)∧kept.length≤i+1∧σ'=[some (.ref aw),some (.ref al),some (.ref ka),k3,k4,k5]) ?_ (fun σ' H' z=>z);walk_at "w";refine ⟨acc,_,rfl,.inl (SqL.of ac4),?_⟩;rw [List.length_map];walk_at "w";refine Zy rfl ?_;walk_at "w";cases ks with
    | nil =>
     refine qK rfl ?_;walk_at "w";refine ⟨.inl ⟨rfl,_,SqL.of ka4⟩,?_⟩;walk_at "w";refine ⟨ka,_,_,rfl,rfl,ka4,qj (by rw [List.length_map];omega),?_⟩;refine ⟨fun b o hb e'=>by rw [j5 hb];exact s4 _ _ (k23 b o hb e'),kept++[e.1],_,_,_,by rw [j1,List.map_append];rfl,fun k hk=>?_,?_,fun f hf=>?_,by simp;omega,rfl⟩
     ·rcases List.mem_append.mp hk with hk | hk
      ·exact rc k hk
      ·rw [List.mem_singleton.mp hk];exact ⟨e.2,hew,her⟩
     ·rw [List.pairwise_append];refine ⟨dis,by simp,fun x hx y hy hxy=>?_⟩;rw [List.mem_singleton.mp hy] at hxy;exact nomatch h2 x hx hxy
     ·rw [jn he] at hf;rcases List.mem_append.mp hf with hf | hf
      ·obtain ⟨k,hk,ha⟩:=cov f hf;exact ⟨k,List.mem_append_left _ hk,ha⟩
      ·rw [List.mem_singleton.mp hf];exact ⟨e.1,List.mem_append_right _ (List.mem_singleton.mpr rfl),fun v _=>rfl⟩
    | cons k0 kr =>
     refine jU (by rw [zp];exact decide_eq_false (by rw [List.length_cons];omega)) ?_;walk_at "w";refine ⟨fun b o hb e'=>s4 _ _ (k23 b o hb e'),kept,_,_,_,ka4,rc,dis,fun f hf=>?_,by omega,rfl⟩;rw [jn he] at hf;rcases List.mem_append.mp hf with hf | hf
     ·exact cov f hf
     ·rw [List.mem_singleton.mp hf];obtain ⟨g1,g2⟩:=h1 k0 List.mem_cons_self;exact ⟨k0,g1,g2⟩
  ·obtain ⟨k23,kept,k3,k4,k5,ka3,rc,dis,cov,hkl,rfl⟩:=pp;rw [List.length_map,hwl,List.take_length] at cov;walk_at "w";refine ⟨ka,_,rfl,.inl (SqL.of ka3),?_⟩;rw [List.length_map];refine q H3 kept (fun b o e=>k23 b o (fun z=>by rw [z,hka] at e;cases e) (s02 b o e)) ⟨rc,dis,fun w hw=>?_⟩;obtain ⟨e,he,e1,_⟩:=ki Wy h0 w.length w rfl hw;obtain ⟨k,hk,ha⟩:=cov e he;exact ⟨k,hk,by rw [← e1];exact ha⟩
theorem Yw:jM ["heads","tails","doors","known","head","line","tail"] ["heads","tails","doors","known"] (j2 kN):=⟨rfl,rfl,rfl,by decide +kernel,rfl,by decide +kernel,by decide +kernel⟩
theorem Uv (T:Txt K mg t):jd K t.fd_zu ["heads","tails","doors","known"] []:=T.F_zu.binds fun _ _ _ _ _ _ us hl=>by obtain ⟨_,_,_,_,rfl⟩:=xp hl;rfl
def wz (K:PySem.W.Frag):Sp:=fun vs H Q _=>∃ (ha ta kd:Addr) (hA tA:List Addr) (d:Int) (kn:Bk) (heads tails:List (List Int)),vs=[.ref ha,.ref ta,.int d,.ref kd]∧SqL K H ha (hA.map V.ref)∧LsAt V.int H hA heads∧SqL K H ta (tA.map V.ref)∧LsAt V.int H tA tails∧H kd=some (.dT (kn.map bkv))∧1≤d∧d≤6∧(∀ h∈heads,h.length≤1000)∧(∀ t∈tails,t.length≤100000) ∧
 (jt d kn heads tails=none→∀ H',j7 H H'→Q .non H')∧(∀ w,jt d kn heads tails=some w→∀ H' a,j7 H H'→H a=none→H' a=some (.lst (w.map V.int))→Q (.ref a) H')
theorem Zp (T:Txt K mg t):qE P w K mg base CX0 1 t.f_zu t.fd_zu ["heads","tails","doors","known"] (wz K):=by
 refine T.F_zu.ok Yw (fun vs H Q E h=>?_) (fun cdv A outer s H vs Q E hr h=>?_)
 ·obtain ⟨ha,ta,kd,hA,tA,d,kn,heads,tails,rfl,_⟩:=h;rfl
 ·obtain ⟨ha,ta,kd,hA,tA,d,kn,heads,tails,rfl,hS,lh,tS,lt,hk,hd1,hd6,hh1,ht1,q1,q2⟩:=h;refine ⟨_,j3 (qC PassesOwn.never rfl (jp K (pv 0)) (jL (i:=4) Yw.nd rfl (Or.inr rfl))
 (j6 (qC PassesOwn.never rfl (jp K (jq qw (jg (j0 (pv 4) (j4))) (yS (N:=["heads","tails","doors","known","head","line","tail"]) (sc0:=(j2 kN)) (N':=["door","head"]) (caps:=[none,some 4]) (by exact ⟨rfl,by decide +kernel,by decide +kernel,by decide +kernel,rfl,rfl,by decide +kernel⟩) rfl (qI rfl T.m_range (j0 (pv 2) (j4))) (fun _ _ _ _ _ _=>jL (i:=0) (show List.Nodup (["door","head"]:List Str) from by decide +kernel) rfl (Or.inl rfl)) (fun _ _ _ _ _ _=>jq qw (pv 1) (jg (j0 (pv 0) (j4))))))) (jL (i:=5) Yw.nd rfl (Or.inl rfl))
 (j6 (qC PassesOwn.never rfl (jp K (pv 1)) (jL (i:=6) Yw.nd rfl (Or.inl rfl))
 (j6 (jz (v4 (vn hr.units1 (qG (ju K) rfl T.m_tuple boot_tuple (j0 (jq qw (pv 5) (pv 6)) (j4))) (pv 3)))
 (j6 (jO (jq qw (pv 5) (pv 6))))
 (jS))))))))
 (j6 (jO (qf))),?_⟩
  walk_at "w";refine ⟨ha,rfl,⟨_,hS⟩,?_⟩;refine qT (xs:=hA.map V.ref) (fun i σ H'=>j7 H H'∧(∀ x∈jC d (heads.take i),yG kn tails x=none)∧∃ k4 k5 k6,σ=[some (.ref ha),some (.ref ta),some (.int d),some (.ref kd),k4,k5,k6]) ⟨j7.refl _,by simp [jC],_,_,_,rfl⟩ (fun i σ H' _ pp=>qa pp.1 hS) (fun i x σ H1 hx pp=>?_) (fun σ H1 pp=>?_)
  ·obtain ⟨s1,hall,k4,k5,k6,rfl⟩:=pp;have hx0:=jc hx;clear hx;obtain ⟨hd,rfl,hhd⟩:=hx0;have hi:i < heads.length:=by rw [← lh.len];exact (List.getElem?_eq_some_iff.mp hhd).1
   have hhi:=List.getElem?_eq_getElem hi;have hv:=lh.row i hd _ hhd hhi;have hhl:=hh1 _ (List.getElem_mem hi);generalize heads[i]=h at hhi hv hhl;walk_at "w";refine ⟨by show 1≤sizeLine;decide,fun l1 hl1=>?_⟩;have s2:j7 H1 (upd H1 l1 (.lst [.ref hd])):=j7.upd_new hl1;have l12:(upd H1 l1 (.lst [.ref hd])) l1=some (.lst [.ref hd]):=j1;generalize upd H1 l1 (.lst [.ref hd])=H2 at s2 l12 ⊢;walk_at "w";refine ⟨_,rfl,by omega,by omega,?_⟩;refine zP (fun acc j ys H'=>j7 H2 H'∧H' acc=some (.lst ys)∧H2 acc=none∧∃ es,es.length=j∧ys=es.map V.ref∧LsAt V.int H' es ((List.range j).map fun (k:Nat)=>h++[(k:Int)])) (fun acc hacc=>⟨j7.upd_new hacc,j1,hacc,[],rfl,rfl,⟨rfl,fun i b v h1 h2=>by simp at h1⟩⟩) (fun acc j ys H3 hacc hj pp=>?_) (fun acc ys H3 hacc pp=>?_)
   ·obtain ⟨s3,ac3,_,es,hes,rfl,le⟩:=pp;have e0:(0:Int)+(j:Int)=(j:Int):=by omega
    rw [e0];walk_at "w";refine ⟨Wk.set rfl,?_⟩;walk_at "w";refine ⟨by show 1≤sizeLine;decide,fun c1 hc1=>?_⟩;have s4:j7 H3 (upd H3 c1 (.lst [.int (j:Int)])):=j7.upd_new hc1;have c14:(upd H3 c1 (.lst [.int (j:Int)])) c1=some (.lst [.int (j:Int)]):=j1;generalize upd H3 c1 (.lst [.int (j:Int)])=H4 at s4 c14 ⊢;refine ⟨hd,c1,_,_,rfl,rfl,s4 _ _ (s3 _ _ (s2 _ _ (s1 _ _ hv))),c14,Nat.le_of_lt (qj (by simp;omega)),fun c2 hc2=>?_⟩;have ec2:h.map V.int++[V.int (j:Int)]=(h++[(j:Int)]).map V.int:=by rw [List.map_append];rfl
    rw [ec2];have s5:j7 H4 (upd H4 c2 (.lst ((h++[(j:Int)]).map V.int))):=j7.upd_new hc2;have c25:(upd H4 c2 (.lst ((h++[(j:Int)]).map V.int))) c2=some (.lst ((h++[(j:Int)]).map V.int)):=j1;have nca:c2≠acc:=fun z=>by rw [z,s4 _ _ ac3] at hc2;cases hc2
    generalize upd H4 c2 (.lst ((h++[(j:Int)]).map V.int))=H5 at s5 c25 ⊢;have s35:=s4.trans s5;have nes:∀ b∈es,b≠acc:=fun b hb z=>by
     obtain ⟨v,hv',e⟩:=le.mem hb;rw [z,ac3] at e;obtain ⟨k,_,rfl⟩:=List.mem_map.mp hv'
     injection e with e;injection e with e
     have:=congrArg List.length e;rw [List.length_map,List.length_map,List.length_append] at this;have hl:=congrArg (fun z:List V=>z[0]?) e;cases es with
     | nil=>simp at this
     | cons e0 er =>
      cases h with
      | nil=>simp at hl
      | cons a0 ar=>simp at hl
    refine ⟨s35 _ _ ac3,qj (by rw [List.length_map];omega),fun b o e=>?_,j1,hacc,es++[c2],by simp [hes],by simp,?_⟩
    ·rw [j5 (jA e hacc)];exact s35 _ _ (s3 b o e)
    ·rw [qS];exact LsAt.snoc (le.keep fun b hb o e=>by rw [j5 (nes b hb)];exact s35 _ _ e) (by rw [j5 nca];exact c25)
   ·obtain ⟨s3,ac3,_,es,hes,rfl,le⟩:=pp;have le':LsAt V.int H3 es (jT d h):=le;walk_at "w";refine ⟨l1,acc,_,_,rfl,rfl,s3 _ _ l12,ac3,Nat.le_of_lt (qj (by rw [List.length_map];simp;omega)),fun ml hml=>?_⟩;have em:[V.ref hd]++es.map V.ref=(hd :: es).map V.ref:=rfl;rw [em];have s4:j7 H3 (upd H3 ml (.lst ((hd :: es).map V.ref))):=j7.upd_new hml;have ml4:(upd H3 ml (.lst ((hd :: es).map V.ref))) ml=some (.lst ((hd :: es).map V.ref)):=j1;generalize upd H3 ml (.lst ((hd :: es).map V.ref))=H4 at s4 ml4 ⊢;have s04:j7 H H4:=s1.trans (s2.trans (s3.trans s4));have lm:LsAt V.int H4 (hd :: es) (h :: jT d h):=⟨by rw [List.length_cons,List.length_cons,le'.len],fun k b v h1 h2=>by
     cases k with
     | zero=>simp at h1 h2;subst h1 h2;exact s04 _ _ hv
     | succ k=>exact s4 _ _ (le'.row k b v (by simpa using h1) (by simpa using h2))⟩
    refine ⟨ml,rfl,⟨_,SqL.of ml4⟩,?_⟩;refine qT (xs:=(hd :: es).map V.ref) (fun j σ H'=>j7 H4 H'∧(∀ x∈(h :: jT d h).take j,yG kn tails x=none)∧∃ k5 k6,σ=[some (.ref ha),some (.ref ta),some (.int d),some (.ref kd),some (.ref hd),k5,k6]) ⟨j7.refl _,by simp,_,_,rfl⟩ (fun j σ H' _ pp=>SqL.of (pp.1 _ _ ml4)) (fun j x σ H5 hx pp=>?_) (fun σ H5 pp=>?_)
    ·obtain ⟨s5,hall2,k5,k6,rfl⟩:=pp;have hx0:=jc hx;clear hx;obtain ⟨la,rfl,hla⟩:=hx0;have hj:j < (h :: jT d h).length:=by rw [← lm.len];exact (List.getElem?_eq_some_iff.mp hla).1
     have hlj:=List.getElem?_eq_getElem hj;have hlv:=lm.row j la _ hla hlj;have hll:(h :: jT d h)[j].length≤1001:=by
      rcases List.mem_cons.mp (List.getElem_mem hj) with e | e
      ·rw [e];omega
      ·obtain ⟨k,_,e⟩:=List.mem_map.mp e;rw [← e,List.length_append,List.length_singleton];omega
     generalize (h :: jT d h)[j]=l at hlj hlv hll;have s05:=s04.trans s5;walk_at "w";refine ⟨ta,rfl,⟨_,qa s05 tS⟩,?_⟩;refine qT (xs:=tA.map V.ref) (fun m σ H'=>j7 H5 H'∧(∀ u∈tails.take m,∃ b,saidO kn (l++u)=some b)∧∃ k6,σ=[some (.ref ha),some (.ref ta),some (.int d),some (.ref kd),some (.ref hd),some (.ref la),k6]) ⟨j7.refl _,by simp,_,rfl⟩ (fun m σ H' _ pp=>qa (s05.trans pp.1) tS) (fun m x σ H6 hx pp=>?_) (fun σ H6 pp=>?_)
     ·obtain ⟨s6,hall3,k6,rfl⟩:=pp;have hx0:=jc hx;clear hx;obtain ⟨tl,rfl,htl⟩:=hx0;have hm:m < tails.length:=by rw [← lt.len];exact (List.getElem?_eq_some_iff.mp htl).1
      have htm:=List.getElem?_eq_getElem hm;have htv:=lt.row m tl _ htl htm;have htl1:=ht1 _ (List.getElem_mem hm);generalize tails[m]=u at htm htv htl1;have s06:=s05.trans s6;have la6:H6 la=some (.lst (l.map V.int)):=s6 _ _ (s5 _ _ hlv);walk_at "w";refine ⟨la,tl,_,_,rfl,rfl,la6,s06 _ _ htv,Nat.le_of_lt (qj (by rw [List.length_map,List.length_map];omega)),fun wa hwa=>?_⟩;rw [← List.map_append];have s7:j7 H6 (upd H6 wa (.lst ((l++u).map V.int))):=j7.upd_new hwa;have wa7:(upd H6 wa (.lst ((l++u).map V.int))) wa=some (.lst ((l++u).map V.int)):=j1;generalize upd H6 wa (.lst ((l++u).map V.int))=H7 at s7 wa7 ⊢;walk_at "w";refine ⟨wa,_,rfl,.inl ⟨SqL.of wa7,fun tp htp=>?_⟩⟩;have s8:j7 H7 (upd H7 tp (.tup ((l++u).map V.int))):=j7.upd_new htp;have tp8:(upd H7 tp (.tup ((l++u).map V.int))) tp=some (.tup (((l++u).map (Sum.inl:Int→Key)).map kV)):=by rw [j1,zg]
      generalize upd H7 tp (.tup ((l++u).map V.int))=H8 at s8 tp8 ⊢;have s68:=s7.trans s8;walk_at "w";refine ⟨kd,_,rfl,ym.t (k:=(l++u).map Sum.inl) (s68 _ _ (s06 _ _ hk)) tp8,?_⟩;rw [yA];walk_at "w";cases hs:saidO kn (l++u) with
      | none =>
       refine qK rfl ?_;walk_at "w";refine ⟨la,tl,_,_,rfl,rfl,s68 _ _ la6,s68 _ _ (s06 _ _ htv),Nat.le_of_lt (qj (by rw [List.length_map,List.length_map];omega)),fun wb hwb=>?_⟩;rw [← List.map_append];exact q2 _ (X0 hhi hlj hall hall2 (Zh hall3 htm hs)) _ wb ((s06.trans s68).trans (j7.upd_new hwb)) ((s06.trans s68).free hwb) j1
      | some b =>
       refine jU rfl ?_;walk_at "w";refine ⟨s6.trans s68,fun v hv'=>?_,_,rfl⟩;rw [jn htm] at hv';rcases List.mem_append.mp hv' with h' | h'
       ·exact hall3 v h'
       ·rw [List.mem_singleton.mp h'];exact ⟨b,hs⟩
     ·obtain ⟨s6,hall3,k6,rfl⟩:=pp;rw [List.length_map,lt.len,List.take_length] at hall3;refine ⟨s5.trans s6,fun v hv'=>?_,_,_,rfl⟩;rw [jn hlj] at hv';rcases List.mem_append.mp hv' with h' | h'
      ·exact hall2 v h'
      ·rw [List.mem_singleton.mp h'];exact zB.mpr hall3
    ·obtain ⟨s5,hall2,k5,k6,rfl⟩:=pp;rw [List.length_map,lm.len,List.take_length] at hall2;refine ⟨s04.trans s5,fun v hv'=>?_,_,_,_,rfl⟩;rw [jn hhi,yL] at hv';rcases List.mem_append.mp hv' with h' | h'
     ·exact hall v h'
     ·exact hall2 v h'
  ·obtain ⟨s1,hall,k4,k5,k6,rfl⟩:=pp;rw [List.length_map,lh.len,List.take_length] at hall;walk_at "w";refine q1 ?_ _ s1;unfold jt;rw [List.findSome?_eq_none_iff];exact hall
theorem j0P:jM ["known","word","tails"] ["known","word","tails"] (j2 kH):=⟨rfl,rfl,rfl,by decide +kernel,rfl,by decide +kernel,by decide +kernel⟩
theorem XA (T:Txt K mg t):jd K t.fd_zw ["known","word","tails"] []:=T.F_zw.binds fun _ _ _ _ _ _ us hl=>by obtain ⟨_,_,_,rfl⟩:=zX hl;rfl
def Wn (K:PySem.W.Frag):Sp:=fun vs H Q _=>∃ (kd wa ta:Addr) (tA:List Addr) (kn:Bk) (w:List Int) (tails:List (List Int)),vs=[.ref kd,.ref wa,.ref ta]∧H kd=some (.dT (kn.map bkv))∧H wa=some (.lst (w.map V.int))∧SqL K H ta (tA.map V.ref)∧LsAt V.int H tA tails∧w.length≤10000∧tails.length≤100000∧(∀ t∈tails,t.length≤100000)∧(∀ t∈tails,∃ b,saidO kn (w++t)=some b) ∧
 (∀ H' a,j7 H H'→H a=none→H' a=some (.lst ((jQ kn tails w).map V.bl))→Q (.ref a) H')
theorem Yt (T:Txt K mg t):qE P w K mg base CX0 1 t.f_zw t.fd_zw ["known","word","tails"] (Wn K):=by
 refine T.F_zw.ok j0P (fun vs H Q E h=>?_) (fun cdv A outer s H vs Q E hr h=>?_)
 ·obtain ⟨kd,wa,ta,tA,kn,w,tails,rfl,_⟩:=h;rfl
 ·obtain ⟨kd,wa,ta,tA,kn,wd,tails,rfl,hk,hw,tS,lt,hwl,htn,ht1,hkn,q⟩:=h;refine ⟨_,j6 (jO (yS (N:=["known","word","tails"]) (sc0:=(j2 kH)) (N':=["tail","known","word"]) (caps:=[none,some 0,some 1]) (by exact ⟨rfl,by decide +kernel,by decide +kernel,by decide +kernel,rfl,rfl,by decide +kernel⟩) rfl (jp K (pv 2)) (fun _ _ _ _ _ _=>jL (i:=0) (show List.Nodup (["tail","known","word"]:List Str) from by decide +kernel) rfl (Or.inl rfl)) (fun _ _ _ _ _ _=>Yy hr.units1 (pv 1) (qG (ju K) rfl T.m_tuple boot_tuple (j0 (jq qw (pv 2) (pv 0)) (j4))) (fun _ _=>rfl)))),?_⟩;walk_at "w";refine ⟨ta,rfl,⟨_,tS⟩,?_⟩;refine yF (xs:=tA.map V.ref) (fun acc i ys H'=>j7 H H'∧H' acc=some (.lst ys)∧ys=((jQ kn tails wd).take i).map V.bl) (fun acc hacc=>⟨j7.upd_new hacc,j1,rfl⟩) (fun acc i ys H' hacc _ pp=>qa pp.1 tS) (fun acc i x ys H1 hacc hx pp=>?_) (fun acc ys H1 hacc pp=>?_)
  ·obtain ⟨s1,ac1,rfl⟩:=pp;have hx0:=jc hx;clear hx;obtain ⟨tl,rfl,htl⟩:=hx0;have hi:i < tails.length:=by rw [← lt.len];exact (List.getElem?_eq_some_iff.mp htl).1
   have htm:=List.getElem?_eq_getElem hi;have htv:=lt.row i tl _ htl htm;have htl1:=ht1 _ (List.getElem_mem hi);obtain ⟨b,hb⟩:=hkn _ (List.getElem_mem hi);have hri:(jQ kn tails wd)[i]?=some b:=by unfold jQ;rw [List.getElem?_map,htm,Option.map_some,hb];rfl
   generalize tails[i]=u at htm htv htl1 hb;walk_at "w";refine ⟨Wk.set rfl,?_⟩;walk_at "w";refine ⟨wa,tl,_,_,rfl,rfl,s1 _ _ hw,s1 _ _ htv,Nat.le_of_lt (qj (by rw [List.length_map,List.length_map];omega)),fun c hc=>?_⟩;rw [← List.map_append];have s7:j7 H1 (upd H1 c (.lst ((wd++u).map V.int))):=j7.upd_new hc;have wa7:(upd H1 c (.lst ((wd++u).map V.int))) c=some (.lst ((wd++u).map V.int)):=j1;generalize upd H1 c (.lst ((wd++u).map V.int))=H7 at s7 wa7 ⊢;walk_at "w";refine ⟨c,_,rfl,.inl ⟨SqL.of wa7,fun tp htp=>?_⟩⟩;have s8:j7 H7 (upd H7 tp (.tup ((wd++u).map V.int))):=j7.upd_new htp;have tp8:(upd H7 tp (.tup ((wd++u).map V.int))) tp=some (.tup (((wd++u).map (Sum.inl:Int→Key)).map kV)):=by rw [j1,zg]
   generalize upd H7 tp (.tup ((wd++u).map V.int))=H8 at s8 tp8 ⊢;have s18:=s7.trans s8;have hdg:ym H8 kd (.ref tp) (yK (kn.map bkv) ((wd++u).map Sum.inl)):=ym.t (s18 _ _ (s1 _ _ hk)) tp8;rw [yA,hb] at hdg;refine ⟨kd,_,rfl,hdg,?_⟩;refine ⟨s18 _ _ ac1,qj (by rw [List.length_map,List.length_take];unfold jQ;rw [List.length_map];omega),fun b' o e=>?_,j1,?_⟩
   ·rw [j5 (jA e hacc)];exact s18 _ _ (s1 _ _ e)
   ·rw [jn hri,List.map_append];rfl
  ·obtain ⟨s1,ac1,rfl⟩:=pp;have hrl:(jQ kn tails wd).length=tails.length:=by unfold jQ;rw [List.length_map]
   rw [List.length_map,lt.len,← hrl,List.take_length] at ac1;exact q H1 acc s1 hacc ac1
theorem JC:jM ["heads","tails","doors","known","rows","loose","head","door"] ["heads","tails","doors","known"] (j2 kI):=⟨rfl,rfl,rfl,by decide +kernel,rfl,by decide +kernel,by decide +kernel⟩
theorem W1 (T:Txt K mg t):jd K t.fd_zo ["heads","tails","doors","known"] []:=T.F_zo.binds fun _ _ _ _ _ _ us hl=>by obtain ⟨_,_,_,_,rfl⟩:=xp hl;rfl
def Wh (K:PySem.W.Frag):Sp:=fun vs H Q _=>∃ (ha ta kd:Addr) (hA tA:List Addr) (d:Int) (kn:Bk) (heads tails:List (List Int)),vs=[.ref ha,.ref ta,.int d,.ref kd]∧H ha=some (.lst (hA.map V.ref))∧LsAt V.int H hA heads∧H ta=some (.lst (tA.map V.ref))∧LsAt V.int H tA tails∧H kd=some (.dT (kn.map bkv))∧1≤d∧d≤6∧LI d kn heads tails∧(∀ hs,LI d kn hs tails→hs.length≤400)∧tails.length≤100000∧(∀ t∈tails,t.length≤100000) ∧
 (∀ H' ha' hA',j7 H H'→H' ha'=some (.lst (hA'.map V.ref))→LsAt V.int H' hA' (zQ d kn tails heads)→(∀ b∈ha' :: hA',b∈ha :: hA∨H b=none)→Q (.ref ha') H')
theorem Kc (T:Txt K mg t):qE P w K mg base CX0 3 t.f_zo t.fd_zo ["heads","tails","doors","known"] (Wh K):=by
 refine T.F_zo.ok JC (fun vs H Q E h=>?_) (fun cdv A outer s H vs Q E hr h=>?_)
 ·obtain ⟨ha,ta,kd,hA,tA,d,kn,heads,tails,rfl,_⟩:=h;rfl
 ·obtain ⟨ha,ta,kd,hA,tA,d,kn,heads,tails,rfl,hS,lh,tS,lt,hk,hd1,hd6,I,bnd,htn,ht1,q⟩:=h;refine ⟨_,j3 (y9 PassesOwn.never (jX xb (jK (Zp T) (hr.mono (by decide)) rfl T.mg_zu T.F_zu.kp (Uv T) .nil jP (j0 (pv 0) (j0 (pv 1) (j0 (pv 2) (j0 (pv 3) (j4)))))) (qf) (je _))
 (j3 (Yk (i:=4) (N:=["heads","tails","doors","known","rows","loose","head","door"]) (sc0:=(j2 kI)) (N':=["head","known","tails"]) (caps:=[none,some 3,some 1]) (by exact ⟨rfl,by decide +kernel,by decide +kernel,by decide +kernel,rfl,rfl,by decide +kernel⟩) rfl JC.nd rfl (Or.inl rfl) (jp K (pv 0)) (fun _ _ _ _ _ _=>jL (i:=0) (show List.Nodup (["head","known","tails"]:List Str) from by decide +kernel) rfl (Or.inl rfl)) (fun _ _ _ _ _ _=>jK (Yt T) (hr.mono (by decide)) rfl T.mg_zw T.F_zw.kp (XA T) .nil jP (j0 (pv 1) (j0 (pv 0) (j0 (pv 2) (j4))))))
 (j3 (jH (i:=5) JC.nd rfl (Or.inl rfl) (jg (j4)))
 (j3 (qC PassesOwn.never rfl (jp K (pv 0)) (jL (i:=6) JC.nd rfl (Or.inl rfl))
 (j6 (qC PassesOwn.never rfl (qI rfl T.m_range (j0 (pv 2) (j4))) (jL (i:=7) JC.nd rfl (Or.inl rfl))
 (j6 (qV (jz (v4 (VQ (YM K hr.u80) (jK (Yt T) (hr.mono (by decide)) rfl T.mg_zw T.F_zw.kp (XA T) .nil jP (j0 (pv 3) (j0 (jq qw (pv 6) (jg (j0 (pv 7) (j4)))) (j0 (pv 1) (j4))))) (pv 4)))
 (j6 (jZ (qc K PySem.F.plainAttrs_list PySem.F.slot_list_append PySem.F.type_list_append jj (pv 5) (j0 (jq qw (pv 6) (jg (j0 (pv 7) (j4)))) (j4)))))
 (jS)))))))
 (j3 (jz (jX Qe (jI (jB K) rfl T.m_len PySem.boot_len (j0 (pv 5) (j4))) (jG) (je _))
 (j6 (jO (pv 0)))
 (jS))
 (j6 (jH (i:=0) JC.nd rfl (Or.inl rfl) (jq qw (pv 0) (vN (vE K) (pv 5) (JH) (vH (jG)))))))))))
 (j6 (jO (pv 0))),?_⟩
  walk_at "w";refine ⟨fun m σ H'=>∃ ha1 hA1 hs n k4 k5 k6 k7,m=401 - hs.length∧j7 H H'∧H' ha1=some (.lst (hA1.map V.ref))∧LsAt V.int H' hA1 hs∧LI d kn hs tails∧zQ d kn tails heads=ya d kn tails n hs∧401≤n+hs.length∧(∀ b∈ha1 :: hA1,b∈ha :: hA∨H b=none)∧σ=[some (.ref ha1),some (.ref ta),some (.int d),some (.ref kd),k4,k5,k6,k7],⟨_,ha,hA,heads,400,_,_,_,_,rfl,j7.refl _,hS,lh,I,rfl,by have:=List.length_pos_of_mem I.mem0;omega,fun b hb=>.inl hb,rfl⟩,?_⟩
  rintro m σ H1 ⟨ha1,hA1,hs,n,k4,k5,k6,k7,rfl,s1,hS1,lh1,I1,eg,hn4,nw1,rfl⟩
  have hb1:=bnd hs I1;have hhw:∀ h∈hs,h.length≤1000:=fun h hh=>by have:=I1.hlenM hh;omega
  walk_at "w";refine ⟨ha1,ta,kd,hA1,tA,d,kn,hs,tails,rfl,SqL.of hS1,lh1,SqL.of (s1 _ _ tS),lt.keep (fun b _ o e=>s1 b o e),s1 _ _ hk,hd1,hd6,hhw,ht1,fun hq H2 s2=>?_,fun w hq H2 wa s2 hwn hwv=>?_⟩
  ·have s02:=s1.trans s2;have lh2:=lh1.keep (H':=H2) fun b _ o e=>s2 b o e;have lt2:LsAt V.int H2 tA tails:=lt.keep fun b _ o e=>s02 b o e;have hkn:=ql.mp hq;have eh:∀ h∈hs,∀ t∈tails,∃ b,saidO kn (h++t)=some b:=fun h hh=>hkn h (qF.mpr ⟨h,hh,.inl rfl⟩);walk_at "w";refine ⟨rfl,?_⟩;walk_at "w";refine qK rfl ?_;refine ⟨fun σ' H'=>∃ ha2 hA2 e k4 k5 k6 k7,qB d kn hs tails=some e∧j7 H H'∧H' ha2=some (.lst (hA2.map V.ref))∧LsAt V.int H' hA2 (hs++[e])∧(∀ b∈ha2 :: hA2,b∈ha :: hA∨H b=none)∧σ'=[some (.ref ha2),some (.ref ta),some (.int d),some (.ref kd),k4,k5,k6,k7],?_,?_⟩
   ·rintro σ' H' ⟨ha2,hA2,e,k4,k5,k6,k7,hlo,g1,g2,g3,g4,rfl⟩
    have Ig:=I1.grown hq hlo;have hbg:=bnd _ Ig;rw [List.length_append,List.length_singleton] at hbg;obtain ⟨k,rfl⟩:∃ k,n=k+1:=⟨n - 1,by omega⟩;exact ⟨401 - (hs++[e]).length,by rw [List.length_append,List.length_singleton];omega,ha2,hA2,hs++[e],k,k4,k5,k6,k7,rfl,g1,g2,g3,Ig,eg.trans (vC hq hlo k),by rw [List.length_append,List.length_singleton];omega,g4,rfl⟩
   walk_at "w";refine ⟨ha1,rfl,⟨_,SqL.of (s2 _ _ hS1)⟩,?_⟩;refine yF (xs:=hA1.map V.ref) (fun acc i ys H'=>j7 H2 H'∧H2 acc=none∧H' acc=some (.lst ys)∧∃ rA,ys=rA.map V.ref∧rA.length=i∧(∀ b∈rA,H2 b=none)∧acc∉rA∧LsAt V.bl H' rA ((jN kn hs tails).take i)) (fun acc hacc=>⟨j7.upd_new hacc,hacc,j1,[],rfl,rfl,by simp,by simp,⟨by simp,fun i b v h1 h2=>by simp at h1⟩⟩) (fun acc i ys H' hacc _ pp=>SqL.of (pp.1 _ _ (s2 _ _ hS1))) (fun acc i x ys H3 hacc hx pp=>?_) (fun acc ys H3 hacc pp=>?_)
   ·obtain ⟨s3,_,ac3,rA,rfl,hrl,hrn,hra,lr⟩:=pp;have hx0:=jc hx;clear hx;obtain ⟨hd,rfl,hhd⟩:=hx0;have hi:i < hs.length:=by rw [← lh1.len];exact (List.getElem?_eq_some_iff.mp hhd).1
    have hhi:=List.getElem?_eq_getElem hi;have hv:=lh2.row i hd _ hhd hhi;have hmem:=List.getElem_mem hi;have hhr:(jN kn hs tails)[i]?=some (jQ kn tails hs[i]):=by unfold jN;rw [List.getElem?_map,hhi];rfl
    generalize hs[i]=h at hhi hv hmem hhr;walk_at "w";refine ⟨Wk.set rfl,?_⟩;walk_at "w";have s03:=s02.trans s3;refine ⟨kd,hd,ta,tA,kn,h,tails,rfl,s03 _ _ hk,s3 _ _ hv,SqL.of (s03 _ _ tS),lt.keep (fun b _ o e=>s03 b o e),by have:=hhw h hmem;omega,htn,ht1,eh h hmem,fun H4 r s4 hrn4 hr4=>?_⟩;have nra:r≠acc:=fun z=>by rw [z,ac3] at hrn4;cases hrn4
    refine ⟨s4 _ _ ac3,qj (by rw [List.length_map];omega),fun b o e=>?_,hacc,j1,rA++[r],by simp,by simp [hrl],fun b hb=>?_,?_,?_⟩
    ·rw [j5 (jA e hacc)];exact s4 _ _ (s3 _ _ e)
    ·rcases List.mem_append.mp hb with hb | hb
     ·exact hrn b hb
     ·rw [List.mem_singleton.mp hb];exact s3.free hrn4
    ·intro z;rcases List.mem_append.mp z with z | z
     ·exact hra z
     ·exact nra (List.mem_singleton.mp z).symm
    ·rw [jn hhr];exact LsAt.snoc (lr.keep fun b hb o e=>by have nz:b≠acc:=fun z=>hra (by rw [← z];exact hb);rw [j5 nz];exact s4 _ _ e) (by rw [j5 nra];exact hr4)
   ·obtain ⟨s3,_,ac3,rA,rfl,hrl,hrn,hra,lr⟩:=pp;rw [List.length_map,lh1.len] at hrl;have hRl:(jN kn hs tails).length=hs.length:=by simp [jN]
    rw [List.length_map,lh1.len,← hRl,List.take_length] at lr;have s03:=s02.trans s3;walk_at "w";refine ⟨Nat.zero_le _,fun lo hlo=>?_⟩;have s4:j7 H3 (upd H3 lo (.lst [])):=j7.upd_new hlo;have lo4:(upd H3 lo (.lst [])) lo=some (.lst []):=j1;generalize upd H3 lo (.lst [])=H4 at s4 lo4 ⊢;walk_at "w";have s04:=s03.trans s4;have loH:H lo=none:=s03.free hlo;refine ⟨ha1,rfl,⟨_,SqL.of (s4 _ _ (s3 _ _ (s2 _ _ hS1)))⟩,?_⟩;have keyK:∀ {H'},(∀ b o,H3 b=some o→H' b=some o)→j7 H H':=fun k b o e=>k b o (s03 b o e);refine qT (xs:=hA1.map V.ref) (fun i σ H'=>j7 H3 H'∧∃ eA k6 k7,H' lo=some (.lst (eA.map V.ref))∧lo∉eA∧(∀ b∈eA,H b=none)∧LsAt V.int H' eA (((hs.take i).flatMap (jT d)).filter fun l=>!decide (jQ kn tails l∈jN kn hs tails))∧σ=[some (.ref ha1),some (.ref ta),some (.int d),some (.ref kd),some (.ref acc),some (.ref lo),k6,k7]) ⟨s4,[],_,_,lo4,by simp,by simp,⟨by simp,fun i b v h1 h2=>by simp at h1⟩,rfl⟩ (fun i σ H' _ pp=>SqL.of (pp.1 _ _ (s3 _ _ (s2 _ _ hS1)))) (fun i x σ H5 hx pp=>?_) (fun σ H5 pp=>?_)
    ·obtain ⟨s5,eA,k6,k7,lo5,nlo,new5,le,rfl⟩:=pp;have hx0:=jc hx;clear hx;obtain ⟨hd,rfl,hhd⟩:=hx0;have hi:i < hs.length:=by rw [← lh1.len];exact (List.getElem?_eq_some_iff.mp hhd).1
     have hhi:=List.getElem?_eq_getElem hi;have hv:=lh2.row i hd _ hhd hhi;have hmem:=List.getElem_mem hi;generalize hs[i]=h at hhi hv hmem;walk_at "w";refine ⟨_,rfl,by omega,by omega,?_⟩;refine qR (fun j σ H'=>j7 H3 H'∧∃ eA k7,H' lo=some (.lst (eA.map V.ref))∧lo∉eA∧(∀ b∈eA,H b=none)∧LsAt V.int H' eA (((hs.take i).flatMap (jT d)++(jT d h).take j).filter fun l=>!decide (jQ kn tails l∈jN kn hs tails))∧σ=[some (.ref ha1),some (.ref ta),some (.int d),some (.ref kd),some (.ref acc),some (.ref lo),some (.ref hd),k7]) ⟨s5,eA,_,lo5,nlo,new5,by rw [List.take_zero,List.append_nil];exact le,rfl⟩ (fun j σ H6 hj pp=>?_) (fun σ H6 pp=>?_)
     ·obtain ⟨s6,eA6,k7,lo6,nlo6,new6,le6,rfl⟩:=pp;have e0:(0:Int)+(j:Int)=(j:Int):=by omega
      rw [e0];have hjd:j < d.toNat:=by omega
      have hej:(jT d h)[j]?=some (h++[(j:Int)]):=by unfold jT;rw [List.getElem?_map,List.getElem?_range hjd];rfl
      have hel:=z5 (d:=d) hmem (x:=(j:Int)) (by omega) (by omega);have hkn2:=hkn _ hel;have hwl:(h++[(j:Int)]).length≤1001:=by rw [List.length_append,List.length_singleton];have:=hhw h hmem;omega
      have catStep:∀ {Hx:Hp},j7 H3 Hx→Hx hd=some (.lst (h.map V.int)):=fun e=>e _ _ (s3 _ _ hv);walk_at "w";refine qp (fun σ' H'=>j7 H3 H'∧∃ eA k7,H' lo=some (.lst (eA.map V.ref))∧lo∉eA∧(∀ b∈eA,H b=none)∧LsAt V.int H' eA (((hs.take i).flatMap (jT d)++(jT d h).take (j+1)).filter fun l=>!decide (jQ kn tails l∈jN kn hs tails))∧σ'=[some (.ref ha1),some (.ref ta),some (.int d),some (.ref kd),some (.ref acc),some (.ref lo),some (.ref hd),k7]) ?_ (fun σ' H' z=>z);rw [jn hej,← List.append_assoc,List.filter_append];walk_at "w";refine ⟨by show 1≤sizeLine;decide,fun c1 hc1=>?_⟩;have s7:j7 H6 (upd H6 c1 (.lst [.int (j:Int)])):=j7.upd_new hc1;have c17:(upd H6 c1 (.lst [.int (j:Int)])) c1=some (.lst [.int (j:Int)]):=j1;generalize upd H6 c1 (.lst [.int (j:Int)])=H7 at s7 c17 ⊢;refine ⟨hd,c1,_,_,rfl,rfl,catStep (s6.trans s7),c17,Nat.le_of_lt (qj (by simp;have:=hhw h hmem;omega)),fun c2 hc2=>?_⟩;have ec2:h.map V.int++[V.int (j:Int)]=(h++[(j:Int)]).map V.int:=by rw [List.map_append];rfl
      rw [ec2];have s8:j7 H7 (upd H7 c2 (.lst ((h++[(j:Int)]).map V.int))):=j7.upd_new hc2;have c28:(upd H7 c2 (.lst ((h++[(j:Int)]).map V.int))) c2=some (.lst ((h++[(j:Int)]).map V.int)):=j1;generalize upd H7 c2 (.lst ((h++[(j:Int)]).map V.int))=H8 at s8 c28 ⊢;have s38:j7 H3 H8:=s6.trans (s7.trans s8);have s08:=s03.trans s38;walk_at "w";refine ⟨kd,c2,ta,tA,kn,_,tails,rfl,s08 _ _ hk,c28,SqL.of (s08 _ _ tS),lt.keep (fun b _ o e=>s08 b o e),by omega,htn,ht1,hkn2,fun H9 r s9 hrn9 hr9=>?_⟩;have s39:=s38.trans s9;have s69:j7 H6 H9:=s7.trans (s8.trans s9);walk_at "w";refine ⟨r,acc,_,rA,_,rfl,rfl,SqL.of hr9,SqL.of (s39 _ _ ac3),lr.keep (fun b _ o e=>s39 b o e),?_⟩;walk_at "w";have le9:=le6.keep (H':=H9) fun b _ o e=>s69 b o e
      by_cases hm:jQ kn tails (h++[(j:Int)])∈jN kn hs tails
      ·refine jU (by simp [hm]) ?_;walk_at "w";refine ⟨s39,eA6,_,s69 _ _ lo6,nlo6,new6,?_,rfl⟩;rw [show List.filter (fun l=>!decide (jQ kn tails l∈jN kn hs tails)) [h++[(j:Int)]]=[] by simp [hm],List.append_nil];exact le9
      ·refine qK (by simp [hm]) ?_;have lo9:=s69 _ _ lo6;have hel6:eA6.length≤5000:=by
        rw [le6.len];refine Nat.le_trans (List.length_filter_le _ _) ?_;rw [List.length_append,List.length_take,qJ];have:((hs.take i).flatMap (jT d)).length≤400 * 6:=by
         rw [List.length_flatMap];have h1:=Uu (l:=(hs.take i).map fun a=>(jT d a).length) (k:=6) (fun x hx=>by
          obtain ⟨y,_,rfl⟩:=List.mem_map.mp hx;rw [qJ];omega)
         rw [List.length_map,List.length_take] at h1;omega
        omega
       walk_at "w";refine ⟨.inl ⟨rfl,_,SqL.of lo9⟩,?_⟩;walk_at "w";refine ⟨by show 1≤sizeLine;decide,fun d1 hd1'=>?_⟩;have s10:j7 H9 (upd H9 d1 (.lst [.int (j:Int)])):=j7.upd_new hd1';have d110:(upd H9 d1 (.lst [.int (j:Int)])) d1=some (.lst [.int (j:Int)]):=j1;generalize upd H9 d1 (.lst [.int (j:Int)])=H10 at s10 d110 ⊢;refine ⟨hd,d1,_,_,rfl,rfl,catStep (s39.trans s10),d110,Nat.le_of_lt (qj (by simp;have:=hhw h hmem;omega)),fun d2 hd2=>?_⟩;rw [ec2];have s11:j7 H10 (upd H10 d2 (.lst ((h++[(j:Int)]).map V.int))):=j7.upd_new hd2;have d211:(upd H10 d2 (.lst ((h++[(j:Int)]).map V.int))) d2=some (.lst ((h++[(j:Int)]).map V.int)):=j1;have ndl:d2≠lo:=fun z=>by rw [z,s10 _ _ lo9] at hd2;cases hd2
       generalize upd H10 d2 (.lst ((h++[(j:Int)]).map V.int))=H11 at s11 d211 ⊢;have s911:=s10.trans s11;walk_at "w";refine ⟨lo,_,_,rfl,rfl,s911 _ _ lo9,qj (by rw [List.length_map];omega),?_⟩;refine ⟨fun b o e=>?_,eA6++[d2],_,by rw [j1,List.map_append];rfl,fun z=>?_,fun b hb=>?_,?_,rfl⟩
       ·rw [j5 (fun z=>by rw [z,hlo] at e;cases e)];exact s911 _ _ (s39 _ _ e)
       ·rcases List.mem_append.mp z with z | z
        ·exact nlo6 z
        ·exact ndl (List.mem_singleton.mp z).symm
       ·rcases List.mem_append.mp hb with hb | hb
        ·exact new6 b hb
        ·rw [List.mem_singleton.mp hb];exact (s03.trans (s39.trans s10)).free hd2
       ·rw [show List.filter (fun l=>!decide (jQ kn tails l∈jN kn hs tails)) [h++[(j:Int)]]=[h++[(j:Int)]] by simp [hm]];exact LsAt.snoc (le9.keep fun b hb o e=>by have nz:b≠lo:=fun z=>nlo6 (by rw [← z];exact hb);rw [j5 nz];exact s911 _ _ e) (by rw [j5 ndl];exact d211)
     ·obtain ⟨s6,eA6,k7,lo6,nlo6,new6,le6,rfl⟩:=pp;rw [List.take_of_length_le (l:=jT d h) (by rw [qJ];omega)] at le6;refine ⟨s6,eA6,_,_,lo6,nlo6,new6,?_,rfl⟩;rw [jn hhi,List.flatMap_append];simpa using le6
    ·obtain ⟨s5,eA,k6,k7,lo5,nlo,new5,le,rfl⟩:=pp;rw [List.length_map,lh1.len,List.take_length] at le;have elo:qB d kn hs tails=_:=QI (d:=d) (kn:=kn) (heads:=hs) (tails:=tails);generalize (hs.flatMap (jT d)).filter (fun l=>!decide (jQ kn tails l∈jN kn hs tails))=fl at le elo;have s05:=s03.trans s5;walk_at "w";refine ⟨lo,_,rfl,.inl (SqL.of lo5),?_⟩;rw [List.length_map,le.len];walk_at "w";refine Zy rfl ?_;walk_at "w";cases fl with
     | nil =>
      refine qK rfl ?_;walk_at "w";have ee:zQ d kn tails heads=hs:=eg.trans (zO (.inr elo) n);refine q _ ha1 hA1 s05 (s5 _ _ (s3 _ _ (s2 _ _ hS1))) ?_ nw1;rw [ee];exact lh2.keep fun b _ o e=>s5 _ _ (s3 _ _ e)
     | cons e fr =>
      refine jU (by rw [zp];exact decide_eq_false (by rw [List.length_cons];omega)) ?_;cases eA with
      | nil=>have:=le.len;simp at this
      | cons a0 ar =>
       have ha0:H5 a0=some (.lst (e.map V.int)):=le.row 0 a0 e rfl rfl;walk_at "w";refine ⟨_,rfl,?_⟩;refine ⟨lo,_,rfl,SqL.of lo5,fun sl hsl=>?_⟩;rw [Ky (by decide) (by rw [List.length_map,List.length_cons];omega)];rw [show List.take (Int.toNat 1) (List.map V.ref (a0 :: ar))=[V.ref a0] from rfl];have s6:j7 H5 (upd H5 sl (.lst [.ref a0])):=j7.upd_new hsl;have sl6:(upd H5 sl (.lst [.ref a0])) sl=some (.lst [.ref a0]):=j1;generalize upd H5 sl (.lst [.ref a0])=H6 at s6 sl6 ⊢;have hS6:=s6 _ _ (s5 _ _ (s3 _ _ (s2 _ _ hS1)));refine ⟨ha1,sl,_,_,rfl,rfl,hS6,sl6,Nat.le_of_lt (qj (by rw [List.length_map,lh1.len];simp;omega)),fun nh hnh=>?_⟩;walk_at "w";have s7:j7 H6 (upd H6 nh (.lst (hA1.map V.ref++[.ref a0]))):=j7.upd_new hnh;refine ⟨nh,hA1++[a0],e,_,_,_,_,elo,s05.trans (s6.trans s7),by rw [j1,List.map_append];rfl,LsAt.snoc (lh2.keep fun b _ o e'=>s7 _ _ (s6 _ _ (s5 _ _ (s3 _ _ e')))) (s7 _ _ (s6 _ _ ha0)),fun b hb=>?_,rfl⟩;rcases List.mem_cons.mp hb with rfl | hb
       ·exact .inr ((s05.trans s6).free hnh)
       ·rcases List.mem_append.mp hb with hb | hb
        ·exact nw1 b (List.mem_cons_of_mem _ hb)
        ·rw [List.mem_singleton.mp hb];exact .inr (new5 a0 List.mem_cons_self)
  ·walk_at "w";refine ⟨rfl,?_⟩;walk_at "w";refine jU rfl ?_;walk_at "w";have ee:zQ d kn tails heads=hs:=eg.trans (zO (.inl (by rw [hq];intro z;cases z)) n);refine q _ ha1 hA1 (s1.trans s2) (s2 _ _ hS1) ?_ nw1;rw [ee];exact lh1.keep fun b _ o e=>s2 _ _ e
theorem Yc:jM ["heads","tails","doors","known","rows","ways","head"] ["heads","tails","doors","known"] (j2 xA):=⟨rfl,rfl,rfl,by decide +kernel,rfl,by decide +kernel,by decide +kernel⟩
theorem WD (T:Txt K mg t):jd K t.fd_zk ["heads","tails","doors","known"] []:=T.F_zk.binds fun _ _ _ _ _ _ us hl=>by obtain ⟨_,_,_,_,rfl⟩:=xp hl;rfl
def Wc (K:PySem.W.Frag):Sp:=fun vs H Q _=>∃ (ha ta kd:Addr) (hA tA:List Addr) (d:Int) (kn:Bk) (heads tails:List (List Int)),vs=[.ref ha,.ref ta,.int d,.ref kd]∧H ha=some (.lst (hA.map V.ref))∧LsAt V.int H hA heads∧H ta=some (.lst (tA.map V.ref))∧LsAt V.int H tA tails∧H kd=some (.dT (kn.map bkv))∧1≤d∧d≤6∧LI d kn heads tails∧y7 d kn heads tails∧heads.length≤400∧tails.length≤100000∧(∀ t∈tails,t.length≤100000) ∧
 (∀ H' pr wa rs la,j7 H H'→H' pr=some (.lst [.ref wa,.ref la])→Mat H' wa rs (jR d kn heads tails)→H' la=some (.lst ((jf kn heads).map V.bl))→(∀ b,b=pr∨b=la∨b∈wa :: rs→H b=none)→Q (.ref pr) H')
theorem Xz (T:Txt K mg t):qE P w K mg base CX0 3 t.f_zk t.fd_zk ["heads","tails","doors","known"] (Wc K):=by
 refine T.F_zk.ok Yc (fun vs H Q E h=>?_) (fun cdv A outer s H vs Q E hr h=>?_)
 ·obtain ⟨ha,ta,kd,hA,tA,d,kn,heads,tails,rfl,_⟩:=h;rfl
 ·obtain ⟨ha,ta,kd,hA,tA,d,kn,heads,tails,rfl,hS,lh,tS,lt,hk,hd1,hd6,I,Cl,hh4,htn,ht1,q⟩:=h;have hhw:∀ h∈heads,h.length≤1000:=fun h hh=>by have:=I.hlenM hh;omega
  have hkn:=ql.mp Cl.q;refine ⟨_,j3 (jH (i:=4) Yc.nd rfl (Or.inr rfl) (yS (N:=["heads","tails","doors","known","rows","ways","head"]) (sc0:=(j2 xA)) (N':=["head","known","tails"]) (caps:=[none,some 3,some 1]) (by exact ⟨rfl,by decide +kernel,by decide +kernel,by decide +kernel,rfl,rfl,by decide +kernel⟩) rfl (jp K (pv 0)) (fun _ _ _ _ _ _=>jL (i:=0) (show List.Nodup (["head","known","tails"]:List Str) from by decide +kernel) rfl (Or.inl rfl)) (fun _ _ _ _ _ _=>jK (Yt T) (hr.mono (by decide)) rfl T.mg_zw T.F_zw.kp (XA T) .nil jP (j0 (pv 1) (j0 (pv 0) (j0 (pv 2) (j4)))))))
 (j3 (jH (i:=5) Yc.nd rfl (Or.inl rfl) (jg (j4)))
 (j3 (qC PassesOwn.never rfl (jp K (pv 0)) (jL (i:=6) Yc.nd rfl (Or.inr rfl))
 (j6 (jZ (qc K PySem.F.plainAttrs_list PySem.F.slot_list_append PySem.F.type_list_append jj (pv 5) (j0 (yS (N:=["heads","tails","doors","known","rows","ways","head"]) (sc0:=(j2 xA)) (N':=["door","head","known","rows","tails"]) (caps:=[none,some 6,some 3,some 4,some 1]) (by exact ⟨rfl,by decide +kernel,by decide +kernel,by decide +kernel,rfl,rfl,by decide +kernel⟩) rfl (qI rfl T.m_range (j0 (pv 2) (j4))) (fun _ _ _ _ _ _=>jL (i:=0) (show List.Nodup (["door","head","known","rows","tails"]:List Str) from by decide +kernel) rfl (Or.inl rfl)) (fun _ _ _ _ _ _=>qc K PySem.F.plainAttrs_list PySem.F.slot_list_index PySem.F.type_list_index (ZG K hr.u80) (pv 3) (j0 (jK (Yt T) (hr.mono (by decide)) rfl T.mg_zw T.F_zw.kp (XA T) .nil jP (j0 (pv 2) (j0 (jq qw (pv 1) (jg (j0 (pv 0) (j4)))) (j0 (pv 4) (j4))))) (j4)))) (j4))))))
 (j6 (jO (jg (j0 (pv 5) (j0 (yS (N:=["heads","tails","doors","known","rows","ways","head"]) (sc0:=(j2 xA)) (N':=["head","known"]) (caps:=[none,some 3]) (by exact ⟨rfl,by decide +kernel,by decide +kernel,by decide +kernel,rfl,rfl,by decide +kernel⟩) rfl (jp K (pv 0)) (fun _ _ _ _ _ _=>jL (i:=0) (show List.Nodup (["head","known"]:List Str) from by decide +kernel) rfl (Or.inl rfl)) (fun _ _ _ _ _ _=>Yy hr.units1 (pv 1) (qG (ju K) rfl T.m_tuple boot_tuple (j0 (pv 0) (j4))) (fun _ _=>rfl))) (j4)))))))),?_⟩
  walk_at "w";refine ⟨ha,rfl,⟨_,SqL.of hS⟩,?_⟩;refine yF (xs:=hA.map V.ref) (fun acc i ys H'=>j7 H H'∧H acc=none∧H' acc=some (.lst ys)∧∃ rA,ys=rA.map V.ref∧rA.length=i∧(∀ b∈rA,H b=none)∧acc∉rA∧LsAt V.bl H' rA ((jN kn heads tails).take i)) (fun acc hacc=>⟨j7.upd_new hacc,hacc,j1,[],rfl,rfl,by simp,by simp,⟨by simp,fun i b v h1 h2=>by simp at h1⟩⟩) (fun acc i ys H' hacc _ pp=>SqL.of (pp.1 _ _ hS)) (fun acc i x ys H3 hacc hx pp=>?_) (fun acc ys H3 hacc pp=>?_)
  ·obtain ⟨s3,_,ac3,rA,rfl,hrl,hrn,hra,lr⟩:=pp;have hx0:=jc hx;clear hx;obtain ⟨hd,rfl,hhd⟩:=hx0;have hi:i < heads.length:=by rw [← lh.len];exact (List.getElem?_eq_some_iff.mp hhd).1
   have hhi:=List.getElem?_eq_getElem hi;have hv:=lh.row i hd _ hhd hhi;have hmem:=List.getElem_mem hi;have hhr:(jN kn heads tails)[i]?=some (jQ kn tails heads[i]):=by unfold jN;rw [List.getElem?_map,hhi];rfl
   generalize heads[i]=h at hhi hv hmem hhr;walk_at "w";refine ⟨Wk.set rfl,?_⟩;walk_at "w";refine ⟨kd,hd,ta,tA,kn,h,tails,rfl,s3 _ _ hk,s3 _ _ hv,SqL.of (s3 _ _ tS),lt.keep (fun b _ o e=>s3 b o e),by have:=hhw h hmem;omega,htn,ht1,hkn h (qF.mpr ⟨h,hmem,.inl rfl⟩),fun H4 r s4 hrn4 hr4=>?_⟩;have nra:r≠acc:=fun z=>by rw [z,ac3] at hrn4;cases hrn4
   refine ⟨s4 _ _ ac3,qj (by rw [List.length_map];omega),fun b o e=>?_,hacc,j1,rA++[r],by simp,by simp [hrl],fun b hb=>?_,?_,?_⟩
   ·rw [j5 (jA e hacc)];exact s4 _ _ (s3 _ _ e)
   ·rcases List.mem_append.mp hb with hb | hb
    ·exact hrn b hb
    ·rw [List.mem_singleton.mp hb];exact s3.free hrn4
   ·intro z;rcases List.mem_append.mp z with z | z
    ·exact hra z
    ·exact nra (List.mem_singleton.mp z).symm
   ·rw [jn hhr];exact LsAt.snoc (lr.keep fun b hb o e=>by have nz:b≠acc:=fun z=>hra (by rw [← z];exact hb);rw [j5 nz];exact s4 _ _ e) (by rw [j5 nra];exact hr4)
  ·obtain ⟨s3,_,ac3,rA,rfl,hrl,hrn,hra,lr⟩:=pp;rw [List.length_map,lh.len] at hrl;have hRl:(jN kn heads tails).length=heads.length:=by simp [jN]
   rw [List.length_map,lh.len,← hRl,List.take_length] at lr;walk_at "w";refine ⟨Nat.zero_le _,fun wa hwa=>?_⟩;have G0:qr H3 (upd H3 wa (.lst [])) wa [] (fun j=>(jR d kn heads tails).getD j []):=qr.start hwa;have s4:j7 H3 (upd H3 wa (.lst [])):=j7.upd_new hwa;generalize upd H3 wa (.lst [])=H4 at G0 s4 ⊢;walk_at "w";refine ⟨ha,rfl,⟨_,SqL.of (s4 _ _ (s3 _ _ hS))⟩,?_⟩;refine qT (xs:=hA.map V.ref) (fun i σ H'=>∃ rs,rs.length=i∧qr H3 H' wa rs (fun j=>(jR d kn heads tails).getD j [])∧∃ k6,σ=[some (.ref ha),some (.ref ta),some (.int d),some (.ref kd),some (.ref acc),some (.ref wa),k6]) ⟨[],rfl,G0,_,rfl⟩ (fun i σ H' _ pp=>by obtain ⟨_,_,G,_⟩:=pp;exact SqL.of (G.same _ _ (s3 _ _ hS))) (fun i x σ H5 hx pp=>?_) (fun σ H5 pp=>?_)
   ·obtain ⟨rs,hrs,G,k6,rfl⟩:=pp;have hx0:=jc hx;clear hx;obtain ⟨hd,rfl,hhd⟩:=hx0;have hi:i < heads.length:=by rw [← lh.len];exact (List.getElem?_eq_some_iff.mp hhd).1
    have hhi:=List.getElem?_eq_getElem hi;have hv:=lh.row i hd _ hhd hhi;have hmem:=List.getElem_mem hi;have hgw:(jR d kn heads tails).getD rs.length []=(jT d heads[i]).map (ixR kn heads tails):=by
     unfold jR;rw [hrs,List.getD_eq_getElem?_getD,List.getElem?_map,hhi];rfl
    generalize heads[i]=h at hhi hv hmem hgw;walk_at "w";refine ⟨.inl ⟨rfl,_,SqL.of G.top⟩,?_⟩;walk_at "w";refine ⟨_,rfl,by omega,by omega,?_⟩;refine zP (fun ac j ys H'=>j7 H5 H'∧H' ac=some (.lst ys)∧ys=(((jT d h).take j).map (ixR kn heads tails)).map V.int) (fun ac hacc=>⟨j7.upd_new hacc,j1,rfl⟩) (fun ac j ys H6 hac hj pp=>?_) (fun ac ys H6 hac pp=>?_)
    ·obtain ⟨s6,ac6,rfl⟩:=pp;have e0:(0:Int)+(j:Int)=(j:Int):=by omega
     rw [e0];have hjd:j < d.toNat:=by omega
     have hej:(jT d h)[j]?=some (h++[(j:Int)]):=by unfold jT;rw [List.getElem?_map,List.getElem?_range hjd];rfl
     have hel:=z5 (d:=d) hmem (x:=(j:Int)) (by omega) (by omega);have hin:=zN.mp Cl.l _ hel;have s36:j7 H3 H6:=fun b o e=>s6 _ _ (G.same _ _ e);walk_at "w";refine ⟨Wk.set rfl,?_⟩;walk_at "w";refine ⟨.inl ⟨rfl,_,SqL.of (s36 _ _ ac3)⟩,?_⟩;walk_at "w";refine ⟨by show 1≤sizeLine;decide,fun c1 hc1=>?_⟩;have s7:j7 H6 (upd H6 c1 (.lst [.int (j:Int)])):=j7.upd_new hc1;have c17:(upd H6 c1 (.lst [.int (j:Int)])) c1=some (.lst [.int (j:Int)]):=j1;generalize upd H6 c1 (.lst [.int (j:Int)])=H7 at s7 c17 ⊢;refine ⟨hd,c1,_,_,rfl,rfl,s7 _ _ (s36 _ _ (s3 _ _ hv)),c17,Nat.le_of_lt (qj (by simp;have:=hhw h hmem;omega)),fun c2 hc2=>?_⟩;have ec2:h.map V.int++[V.int (j:Int)]=(h++[(j:Int)]).map V.int:=by rw [List.map_append];rfl
     rw [ec2];have s8:j7 H7 (upd H7 c2 (.lst ((h++[(j:Int)]).map V.int))):=j7.upd_new hc2;have c28:(upd H7 c2 (.lst ((h++[(j:Int)]).map V.int))) c2=some (.lst ((h++[(j:Int)]).map V.int)):=j1;generalize upd H7 c2 (.lst ((h++[(j:Int)]).map V.int))=H8 at s8 c28 ⊢;have s38:j7 H3 H8:=s36.trans (s7.trans s8);have s08:=s3.trans s38;walk_at "w";refine ⟨kd,c2,ta,tA,kn,_,tails,rfl,s08 _ _ hk,c28,SqL.of (s08 _ _ tS),lt.keep (fun b _ o e=>s08 b o e),by rw [List.length_append,List.length_singleton];have:=hhw h hmem;omega,htn,ht1,hkn _ hel,fun H9 r s9 hrn9 hr9=>?_⟩;have s39:=s38.trans s9;have s69:j7 H6 H9:=s7.trans (s8.trans s9);walk_at "w";refine ⟨acc,r,_,rA,_,rfl,rfl,SqL.of hr9,SqL.of (s39 _ _ ac3),lr.keep (fun b _ o e=>s39 b o e),hin,?_⟩;refine ⟨s69 _ _ ac6,qj (by rw [List.length_map,List.length_map,List.length_take,qJ];omega),fun b o e=>?_,j1,?_⟩
     ·rw [j5 (jA e hac)];exact s69 _ _ (s6 _ _ e)
     ·rw [jn hej,List.map_append,List.map_append];rfl
    ·obtain ⟨s6,ac6,rfl⟩:=pp;rw [List.take_of_length_le (l:=jT d h) (by rw [qJ];omega),← hgw] at ac6;have naw:wa≠ac:=jA G.top hac;refine ⟨wa,_,_,rfl,rfl,s6 _ _ G.top,qj (by rw [List.length_map];omega),?_⟩;refine ⟨rs++[ac],by simp [hrs],G.step hac (by rw [j1,List.map_append];rfl) (by rw [j5 (Ne.symm naw)];exact ac6) (fun b o h1 _ e=>by rw [j5 h1];exact s6 _ _ e),_,rfl⟩
   ·obtain ⟨rs,hrs,G,k6,rfl⟩:=pp;rw [List.length_map,lh.len] at hrs;have M5:=G.matOf (by rw [hrs];unfold jR;rw [List.length_map]);have s05:j7 H H5:=s3.trans G.same;walk_at "w";refine ⟨ha,rfl,⟨_,SqL.of (s05 _ _ hS)⟩,?_⟩;refine yF (xs:=hA.map V.ref) (fun ac i ys H'=>j7 H5 H'∧H' ac=some (.lst ys)∧ys=((jf kn heads).take i).map V.bl) (fun ac hacc=>⟨j7.upd_new hacc,j1,rfl⟩) (fun ac i ys H' hacc _ pp=>SqL.of (pp.1 _ _ (s05 _ _ hS))) (fun ac i x ys H6 hacc' hx pp=>?_) (fun ac ys H6 hacc' pp=>?_)
    ·obtain ⟨s6,ac6,rfl⟩:=pp;have hx0:=jc hx;clear hx;obtain ⟨hd,rfl,hhd⟩:=hx0;have hi:i < heads.length:=by rw [← lh.len];exact (List.getElem?_eq_some_iff.mp hhd).1
     have hhi:=List.getElem?_eq_getElem hi;have hv:=lh.row i hd _ hhd hhi;obtain ⟨bb,hbb⟩:=hkn heads[i] (qF.mpr ⟨_,List.getElem_mem hi,.inl rfl⟩) [] I.tmem0;rw [List.append_nil] at hbb;have hgl:(jf kn heads)[i]?=some bb:=by unfold jf;rw [List.getElem?_map,hhi,Option.map_some,hbb];rfl
     generalize heads[i]=h at hhi hv hbb;walk_at "w";refine ⟨Wk.set rfl,?_⟩;walk_at "w";refine ⟨hd,_,rfl,.inl ⟨SqL.of (s6 _ _ (s05 _ _ hv)),fun tp htp=>?_⟩⟩;have s8:j7 H6 (upd H6 tp (.tup (h.map V.int))):=j7.upd_new htp;have tp8:(upd H6 tp (.tup (h.map V.int))) tp=some (.tup ((h.map (Sum.inl:Int→Key)).map kV)):=by rw [j1,zg]
     generalize upd H6 tp (.tup (h.map V.int))=H8 at s8 tp8 ⊢;have hdg:ym H8 kd (.ref tp) (yK (kn.map bkv) (h.map Sum.inl)):=ym.t (s8 _ _ (s6 _ _ (s05 _ _ hk))) tp8;rw [yA,hbb] at hdg;refine ⟨kd,_,rfl,hdg,?_⟩;refine ⟨s8 _ _ ac6,qj (by rw [List.length_map,List.length_take];omega),fun b' o e=>?_,j1,?_⟩
     ·rw [j5 (jA e hacc')];exact s8 _ _ (s6 _ _ e)
     ·rw [jn hgl,List.map_append];rfl
    ·obtain ⟨s6,ac6,rfl⟩:=pp;have hgll:(jf kn heads).length=heads.length:=by simp [jf]
     rw [List.length_map,lh.len,← hgll,List.take_length] at ac6;walk_at "w";refine ⟨by show 2≤sizeLine;decide,fun pr hpr=>?_⟩;have s7:j7 H6 (upd H6 pr (.lst [.ref wa,.ref ac])):=j7.upd_new hpr;refine q _ pr wa rs ac (s05.trans (s6.trans s7)) j1 (M5.same (s6.trans s7)) (s7 _ _ ac6) (fun b hb=>?_);rcases hb with rfl | rfl | hb
     ·exact (s05.trans s6).free hpr
     ·exact s05.free hacc'
     ·exact s3.free (G.new b hb)
theorem Yz:jM ["tails","word","k","tail"] ["tails","word"] (j2 QE):=⟨rfl,rfl,rfl,by decide +kernel,rfl,by decide +kernel,by decide +kernel⟩
theorem j1J (T:Txt K mg t):jd K t.fd_zv ["tails","word"] []:=T.F_zv.binds fun _ _ _ _ _ _ us hl=>by obtain ⟨_,_,rfl⟩:=y4 hl;rfl
def wB (K:PySem.W.Frag):Sp:=fun vs H Q _=>∃ (ta wa:Addr) (tA:List Addr) (tails:List (List Int)) (w:List Int),vs=[.ref ta,.ref wa]∧H ta=some (.lst (tA.map V.ref))∧LsAt V.int H tA tails∧SqL K H wa (w.map V.int)∧w.length≤1000∧tails.length≤100000 ∧
 (∀ H' ta' tA',j7 H H'→H' ta'=some (.lst (tA'.map V.ref))→LsAt V.int H' tA' (yW tails w)→(∀ b∈ta' :: tA',b∈ta :: tA∨H b=none)→Q (.ref ta') H')
theorem Wm (T:Txt K mg t):qE P w K mg base CX0 1 t.f_zv t.fd_zv ["tails","word"] (wB K):=by
 refine T.F_zv.ok Yz (fun vs H Q E h=>?_) (fun cdv A outer s H vs Q E hr h=>?_)
 ·obtain ⟨ta,wa,tA,tails,w,rfl,_⟩:=h;rfl
 ·obtain ⟨ta,wa,tA,tails,ws,rfl,hT,lt,hw,hwl,htl,q⟩:=h;refine ⟨_,j3 (qC PassesOwn.never rfl (qI rfl T.m_range (j0 (jI (jB K) rfl T.m_len PySem.boot_len (j0 (pv 1) (j4))) (j4))) (jL (i:=2) Yz.nd rfl (Or.inl rfl))
 (j3 (jH (i:=3) Yz.nd rfl (Or.inl rfl) (vN (vE K) (pv 1) (vH (jq Y4 (jq Y4 (jI (jB K) rfl T.m_len PySem.boot_len (j0 (pv 1) (j4))) (jG)) (pv 2))) (JH)))
 (j6 (qV (jz (v4 (VQ (xM K hr.u80) (pv 3) (pv 0)))
 (j6 (jH (i:=0) Yz.nd rfl (Or.inl rfl) (jq qw (pv 0) (jg (j0 (pv 3) (j4))))))
 (jS))))))
 (j6 (jO (pv 0))),?_⟩
  walk_at "w";refine ⟨wa,_,rfl,.inl hw,?_⟩;rw [List.length_map];walk_at "w";refine ⟨_,rfl,by omega,by omega,?_⟩;refine qR (fun i σ H'=>∃ ta1 tA1 k2 k3,j7 H H'∧H' ta1=some (.lst (tA1.map V.ref))∧LsAt V.int H' tA1 (qi tails ws i)∧(∀ b∈ta1 :: tA1,b∈ta :: tA∨H b=none)∧σ=[some (.ref ta1),some (.ref wa),k2,k3]) ⟨ta,tA,_,_,j7.refl _,hT,lt,fun b hb=>.inl hb,rfl⟩ (fun i σ H1 hi pp=>?_) (fun σ H1 pp=>?_)
  ·obtain ⟨ta1,tA1,k2,k3,s1,hT1,lt1,nw1,rfl⟩:=pp;have hi':i < ws.length:=by omega
   have e0:(0:Int)+(i:Int)=(i:Int):=by omega
   rw [e0];walk_at "w";refine ⟨wa,_,rfl,.inl (qa s1 hw),?_⟩;rw [List.length_map];walk_at "w";refine ⟨_,rfl,?_⟩;walk_at "w";refine ⟨wa,_,rfl,qa s1 hw,fun e he=>?_⟩;have hcut:vX (ws.map V.int) (some ((ws.length:Int) - 1 - (i:Int))) none=(ws.drop (ws.length - (i+1))).map V.int:=by
    rw [QW (by omega) (by rw [List.length_map];omega),List.map_drop];congr 1;omega
   rw [hcut];have s2:j7 H1 (upd H1 e (.lst ((ws.drop (ws.length - (i+1))).map V.int))):=j7.upd_new he;have e2:(upd H1 e (.lst ((ws.drop (ws.length - (i+1))).map V.int))) e=some (.lst ((ws.drop (ws.length - (i+1))).map V.int)):=j1;generalize upd H1 e (.lst ((ws.drop (ws.length - (i+1))).map V.int))=H2 at s2 e2 ⊢;have lt2:=lt1.keep (H':=H2) fun b _ o e=>s2 b o e;have eend:qi tails ws (i+1)=if ws.drop (ws.length - (i+1))∈qi tails ws i then qi tails ws i else qi tails ws i++[ws.drop (ws.length - (i+1))]:=rfl
   walk_at "w";refine qp (fun σ' H'=>∃ ta1 tA1 k2 k3,j7 H H'∧H' ta1=some (.lst (tA1.map V.ref))∧LsAt V.int H' tA1 (qi tails ws (i+1))∧(∀ b∈ta1 :: tA1,b∈ta :: tA∨H b=none)∧σ'=[some (.ref ta1),some (.ref wa),k2,k3]) ?_ (fun σ' H' z=>z);walk_at "w";refine ⟨e,ta1,_,tA1,_,rfl,rfl,SqL.of e2,SqL.of (s2 _ _ hT1),lt2,?_⟩
   walk_at "w";by_cases hm:ws.drop (ws.length - (i+1))∈qi tails ws i
   ·refine jU (by simp [hm]) ?_;walk_at "w";rw [eend,if_pos hm];exact ⟨ta1,tA1,_,_,s1.trans s2,s2 _ _ hT1,lt2,nw1,rfl⟩
   ·refine qK (by simp [hm]) ?_;walk_at "w";refine ⟨by show 1≤sizeLine;decide,fun c hc=>?_⟩;have s3:j7 H2 (upd H2 c (.lst [.ref e])):=j7.upd_new hc;have c3:(upd H2 c (.lst [.ref e])) c=some (.lst [.ref e]):=j1;generalize upd H2 c (.lst [.ref e])=H3 at s3 c3 ⊢;obtain ⟨r,er,hrl⟩:=yf (tails:=tails) (w:=ws) i;refine ⟨ta1,c,_,_,rfl,rfl,s3 _ _ (s2 _ _ hT1),c3,Nat.le_of_lt (qj (by rw [List.length_map,lt1.len,er,List.length_append];simp;omega)),fun tn htn=>?_⟩;walk_at "w";have s4:j7 H3 (upd H3 tn (.lst (tA1.map V.ref++[.ref e]))):=j7.upd_new htn;rw [eend,if_neg hm];refine ⟨tn,tA1++[e],_,_,s1.trans (s2.trans (s3.trans s4)),by rw [j1,List.map_append];rfl,LsAt.snoc (lt2.keep fun b _ o e'=>s4 _ _ (s3 _ _ e')) (s4 _ _ (s3 _ _ e2)),fun b hb=>?_,rfl⟩;rcases List.mem_cons.mp hb with rfl | hb
    ·exact .inr ((s1.trans (s2.trans s3)).free htn)
    ·rcases List.mem_append.mp hb with hb | hb
     ·exact nw1 b (List.mem_cons_of_mem _ hb)
     ·rw [List.mem_singleton.mp hb];exact .inr (s1.free he)
  ·obtain ⟨ta1,tA1,k2,k3,s1,hT1,lt1,nw1,rfl⟩:=pp;rw [Int.toNat_natCast] at lt1;walk_at "w";exact q H1 ta1 tA1 s1 hT1 lt1 nw1
theorem qg:jM ["script","doors","rooms","ways","lamps","house","found","heads","tails","known","wrongs","turn","word","pair"] ["script"] (j2 vQ):=⟨rfl,rfl,rfl,by decide +kernel,rfl,by decide +kernel,by decide +kernel⟩
def sp_law (K:PySem.W.Frag):Sp:=fun vs H Q _=>∃ (a:Addr) (ns:List Int),vs=[.ref a]∧SqL K H a (ns.map V.int)∧ns.length≤63∧∀ H',Q (.bl true) H'
structure I19 (H0 H:Hp) (d:Int) (rss:List (List Int)) (ls:List Bool) (kd wa:Addr) (kn:Bk) (heads tails told:List (List Int)) (n:Nat) (ha ta:Addr) (hA tA wA:List Addr):Prop where
 same:j7 H0 H
 hS:H ha=some (.lst (hA.map V.ref))
 lh:LsAt V.int H hA heads
 tS:H ta=some (.lst (tA.map V.ref))
 lt:LsAt V.int H tA tails
 hk:H kd=some (.dT (kn.map bkv))
 ws:H wa=some (.lst (wA.map V.ref))
 ww:LsAt V.int H wA told
 ne:kd≠wa
 sep:∀ b∈ha :: ta :: (hA++tA++wA),b≠kd∧b≠wa
 k0:H0 kd=none
 w0:H0 wa=none
 P:yP d rss ls kn heads tails told n
theorem I19.tick {H0 H H':Hp} {d:Int} {rss:List (List Int)} {ls:List Bool} {kd wa:Addr} {kn:Bk} {heads tails told:List (List Int)} {n:Nat} {ha ta:Addr} {hA tA wA:List Addr} (J:I19 H0 H d rss ls kd wa kn heads tails told n ha ta hA tA wA) (e:j7 H H'):I19 H0 H' d rss ls kd wa kn heads tails told n ha ta hA tA wA :=
 ⟨J.same.trans e,e _ _ J.hS,J.lh.keep fun b _ o q=>e b o q,e _ _ J.tS,J.lt.keep fun b _ o q=>e b o q,e _ _ J.hk,e _ _ J.ws,J.ww.keep fun b _ o q=>e b o q,J.ne,J.sep,J.k0,J.w0,J.P⟩
theorem Xf {D:L2.Ends} {σ:L2.St} {H:Hp} (h:D.bk σ H):L2.tBreak D σ H:=h
def W19 (H0:Hp) (d:Int) (rss:List (List Int)) (ls:List Bool) (kd wa:Addr) (tails told:List (List Int)) (ta:Addr) (tA wA:List Addr) (m:Nat) (v:V) (ha:Addr) (H:Hp):Prop:=∃ kn heads n hA,I19 H0 H d rss ls kd wa kn heads tails told n ha ta hA tA wA∧m=90001 - kn.length∧(v=.non∧jt d kn heads tails=none∨∃ b w,v=.ref b∧jt d kn heads tails=some w∧H b=some (.lst (w.map V.int)))
def F19 (H4:Hp) (d:Int) (rss:List (List Int)) (ls:List Bool) (kd wa a:Addr) (r:Int) (aw al hp tp:Addr) (i:Nat) (σ:L2.St) (H':Hp):Prop:=∃ kn heads tails told n ha ta hA tA wA k11 k12 k13,I19 H4 H' d rss ls kd wa kn heads tails told n ha ta hA tA wA∧told.length=i∧σ=[some (.ref a),some (.int d),some (.int r),some (.ref aw),some (.ref al),some (.ref hp),some (.ref tp),some (.ref ha),some (.ref ta),some (.ref kd),some (.ref wa),k11,k12,k13]
def J19 (H4:Hp) (d:Int) (rss:List (List Int)) (ls:List Bool) (kd wa a:Addr) (r:Int) (aw al hp tp:Addr) (ta1:Addr) (tails1 told1:List (List Int)) (tA1 wA1:List Addr) (k13:Option V) (σ':L2.St) (H':Hp):Prop:=∃ v m ha k11,σ'=[some (.ref a),some (.int d),some (.int r),some (.ref aw),some (.ref al),some (.ref hp),some (.ref tp),some (.ref ha),some (.ref ta1),some (.ref kd),some (.ref wa),k11,some v,k13]∧W19 H4 d rss ls kd wa tails1 told1 ta1 tA1 wA1 m v ha H'
def L19 (H4:Hp) (d:Int) (rss:List (List Int)) (ls:List Bool) (kd wa a:Addr) (r:Int) (aw al hp tp:Addr) (ta1:Addr) (tails1 told1:List (List Int)) (tA1 wA1:List Addr) (k11 k13:Option V) (m:Nat) (σ:L2.St) (H':Hp):Prop:=∃ v ha,σ=[some (.ref a),some (.int d),some (.int r),some (.ref aw),some (.ref al),some (.ref hp),some (.ref tp),some (.ref ha),some (.ref ta1),some (.ref kd),some (.ref wa),k11,some v,k13]∧W19 H4 d rss ls kd wa tails1 told1 ta1 tA1 wA1 m v ha H'
def B19 (H4:Hp) (d:Int) (rss:List (List Int)) (ls:List Bool) (kd wa a:Addr) (r:Int) (aw al hp tp:Addr) (ta1:Addr) (tails1 told1:List (List Int)) (tA1 wA1:List Addr) (k11 k13:Option V) (M:Nat) (σ':L2.St) (H':Hp):Prop:=∃ v ha m',m' < M∧σ'=[some (.ref a),some (.int d),some (.int r),some (.ref aw),some (.ref al),some (.ref hp),some (.ref tp),some (.ref ha),some (.ref ta1),some (.ref kd),some (.ref wa),k11,some v,k13]∧W19 H4 d rss ls kd wa tails1 told1 ta1 tA1 wA1 m' v ha H'
def E19 (H4:Hp) (d:Int) (rss:List (List Int)) (ls:List Bool) (kd wa a:Addr) (r:Int) (aw al hp tp:Addr) (kn:Bk) (heads tails told:List (List Int)) (n:Nat) (σ:L2.St) (H':Hp):Prop:=∃ ha ta hA tA wA k11 k12 k13,I19 H4 H' d rss ls kd wa kn heads tails told n ha ta hA tA wA∧σ=[some (.ref a),some (.int d),some (.int r),some (.ref aw),some (.ref al),some (.ref hp),some (.ref tp),some (.ref ha),some (.ref ta),some (.ref kd),some (.ref wa),k11,k12,k13]
theorem I19.put {H0 H H':Hp} {d:Int} {rss:List (List Int)} {ls:List Bool} {kd wa:Addr} {kn kn':Bk} {heads tails told:List (List Int)} {n:Nat} {ha ta:Addr} {hA tA wA:List Addr} (J:I19 H0 H d rss ls kd wa kn heads tails told n ha ta hA tA wA) (k:∀ b o,b≠kd→H b=some o→H' b=some o):j7 H0 H'∧H' ha=some (.lst (hA.map V.ref))∧LsAt V.int H' hA heads∧H' ta=some (.lst (tA.map V.ref))∧LsAt V.int H' tA tails∧H' wa=some (.lst (wA.map V.ref))∧LsAt V.int H' wA told :=
 ⟨fun b o e=>k b o (fun z=>by rw [z,J.k0] at e;cases e) (J.same b o e),k _ _ (J.sep ha (by simp)).1 J.hS,J.lh.keep fun b hb o e=>k b o (J.sep b (by simp [hb])).1 e,k _ _ (J.sep ta (by simp)).1 J.tS,J.lt.keep fun b hb o e=>k b o (J.sep b (by simp [hb])).1 e,k _ _ (Ne.symm J.ne) J.ws,J.ww.keep fun b hb o e=>k b o (J.sep b (by simp [hb])).1 e⟩
theorem I19.few {H0 H:Hp} {d:Int} {rss:List (List Int)} {ls:List Bool} {kd wa:Addr} {kn:Bk} {heads tails told:List (List Int)} {n:Nat} {ha ta:Addr} {hA tA wA:List Addr} (J:I19 H0 H d rss ls kd wa kn heads tails told n ha ta hA tA wA) {kept:List Int} (Kd:zZ d rss ls kept) (V:zA d rss ls) (h12:rss.length≤12):LesInv d kn heads tails told∧heads.length≤kept.length∧heads.length≤12∧told.length≤heads.length∧kn.length≤90000∧tails.length≤265∧(∀ h∈heads,h.length≤1000)∧(∀ t∈tails,t.length≤100000)∧∀ hs,LI d kn hs tails→hs.length≤400:=by
 have X:=J.P.inv Kd V h12;have h1:=X.I.heads_le J.P.fits Kd;have h2:=Kd.rooms V.toWays V.r1;obtain ⟨bf,b1,b2,_⟩:=X.bt;have h3:=X.ti;have h4:=(Yr (tails:=tails) Kd V h12 (by omega) _ _ X.I J.P.fits).2 X.nd;exact ⟨X,h1,by omega,by omega,h4,by omega,fun h hh=>by have:=X.I.hlenM hh;omega,fun t ht=>by have:=X.tw t ht;omega,fun hs Ih=>by have:=Ih.heads_le J.P.fits Kd;omega⟩
theorem ok_law (T:Txt K mg t):qE P w K mg base CX0 14 t.f_law t.fd_law ["script"] (sp_law K):=by
 refine T.F_law.ok qg (fun vs H Q E h=>?_) (fun cdv A outer s H vs Q E hr h=>?_)
 ·obtain ⟨a,ns,rfl,_⟩:=h;rfl
 ·obtain ⟨a,ns,rfl,hS,hlen,q⟩:=h;refine ⟨_,j3 (jH (i:=1) qg.nd rfl (Or.inl rfl) (jq y8 (jG) (jq vp (jK (Yf T) (hr.mono (by decide)) rfl T.mg_zh T.F_zh.kp (XV T) .nil jP (j0 (pv 0) (j0 (jG) (j4)))) (jG))))
 (j3 (jH (i:=2) qg.nd rfl (Or.inl rfl) (jq y8 (jG) (jq vp (jK (Yf T) (hr.mono (by decide)) rfl T.mg_zh T.F_zh.kp (XV T) .nil jP (j0 (pv 0) (j0 (jG) (j4)))) (jG))))
 (j3 (jH (i:=3) qg.nd rfl (Or.inl rfl) (jK (Wv T) (hr.mono (by decide)) rfl T.mg_zi T.F_zi.kp (j0x T) .nil jP (j0 (jK (Yf T) (hr.mono (by decide)) rfl T.mg_zh T.F_zh.kp (XV T) .nil jP (j0 (pv 0) (j0 (jG) (j4)))) (j0 (pv 1) (j0 (pv 2) (j4))))))
 (j3 (jH (i:=4) qg.nd rfl (Or.inl rfl) (jK (Wd T) (hr.mono (by decide)) rfl T.mg_zc T.F_zc.kp (j0r T) .nil jP (j0 (jK (Yf T) (hr.mono (by decide)) rfl T.mg_zh T.F_zh.kp (XV T) .nil jP (j0 (pv 0) (j0 (jG) (j4)))) (j0 (pv 2) (j4)))))
 (j3 (jH (i:=5) qg.nd rfl (Or.inl rfl) (xI T.mk_House (Ki T) (hr.mono (by decide)) rfl T.mg_House (j0R T) .nil jP (j0 (pv 1) (j0 (pv 3) (j0 (pv 4) (j4))))))
 (j3 (jH (i:=6) qg.nd rfl (Or.inl rfl) (jK (j0E T) (hr.mono (by decide)) rfl T.mg_zq T.F_zq.kp (j1C T) .nil jP (j0 (pv 5) (j4))))
 (j3 (jz (PW.pt (v0 (qo (qv (jI (qQ K) rfl T.m_isinstance boot_isinstance (j0 (pv 6) (j0 (yt (v:=.ty "tuple") rfl T.m_tuple boot_tuple rfl) (j4)))))) (v0 (jX yg (jI (jB K) rfl T.m_len PySem.boot_len (j0 (pv 6) (j4))) (jG) (je _)) (zc (qo (qv (jK (KO T) (hr.mono (by decide)) rfl T.mg_zd T.F_zd.kp (j0M T) .nil jP (j0 (pv 5) (j0 (pv 1) (j0 (pv 3) (j0 (pv 4) (j4))))))))))))
 (j6 (jO (yQ)))
 (jS))
 (j3 (jH (i:=7) qg.nd rfl (Or.inl rfl) (jg (j0 (jg (j4)) (j4))))
 (j3 (jH (i:=8) qg.nd rfl (Or.inl rfl) (jg (j0 (jg (j4)) (j4))))
 (j3 (jH (i:=9) qg.nd rfl (Or.inl rfl) (Qk))
 (j3 (jH (i:=10) qg.nd rfl (Or.inl rfl) (jg (j4)))
 (j3 (qV (qC PassesOwn.never rfl (qI rfl T.m_range (j0 (jq y8 (pv 2) (jG)) (j4))) (jL (i:=11) qg.nd rfl (Or.inl rfl))
 (j3 (qV (jH (i:=12) qg.nd rfl (Or.inl rfl) (jK (Zp T) (hr.mono (by decide)) rfl T.mg_zu T.F_zu.kp (Uv T) .nil jP (j0 (pv 7) (j0 (pv 8) (j0 (pv 1) (j0 (pv 9) (j4))))))))
 (j3 (y9 PassesOwn.never (jX yc (pv 12) (qf) (je _))
 (j3 (vO hr.units1 (pv 9) (qG (ju K) rfl T.m_tuple boot_tuple (j0 (pv 12) (j4))) (jb (jE K) (pv 4) (jK (Ye T) (hr.mono (by decide)) rfl T.mg_zs T.F_zs.kp (Xq T) .nil jP (j0 (pv 3) (j0 (jG) (j0 (pv 12) (j4))))) (fun _ _=>rfl)) rfl)
 (j3 (jH (i:=7) qg.nd rfl (Or.inl rfl) (jK (Kc T) (hr.mono (by decide)) rfl T.mg_zo T.F_zo.kp (W1 T) .nil jP (j0 (pv 7) (j0 (pv 8) (j0 (pv 1) (j0 (pv 9) (j4)))))))
 (j6 (qV (jH (i:=12) qg.nd rfl (Or.inl rfl) (jK (Zp T) (hr.mono (by decide)) rfl T.mg_zu T.F_zu.kp (Uv T) .nil jP (j0 (pv 7) (j0 (pv 8) (j0 (pv 1) (j0 (pv 9) (j4))))))))))))
 (j3 (jH (i:=13) qg.nd rfl (Or.inl rfl) (jK (Xz T) (hr.mono (by decide)) rfl T.mg_zk T.F_zk.kp (WD T) .nil jP (j0 (pv 7) (j0 (pv 8) (j0 (pv 1) (j0 (pv 9) (j4)))))))
 (j3 (jH (i:=12) qg.nd rfl (Or.inl rfl) (jK (Zo T) (hr.mono (by decide)) rfl T.mg_zt T.F_zt.kp (UU T) .nil jP (j0 (jb (jE K) (pv 13) (jG) (fun _ _=>rfl)) (j0 (jb (jE K) (pv 13) (jG) (fun _ _=>rfl)) (j0 (jG) (j0 (pv 3) (j0 (pv 4) (j0 (jG) (j4)))))))))
 (j3 (jz (jX xb (pv 12) (qf) (je _))
 (j6 (VM))
 (jS))
 (j3 (jZ (qc K PySem.F.plainAttrs_list PySem.F.slot_list_append PySem.F.type_list_append jj (pv 10) (j0 (pv 12) (j4))))
 (j3 (vO hr.units1 (pv 9) (qG (ju K) rfl T.m_tuple boot_tuple (j0 (pv 12) (j4))) (jb (jE K) (pv 4) (jK (Ye T) (hr.mono (by decide)) rfl T.mg_zs T.F_zs.kp (Xq T) .nil jP (j0 (pv 3) (j0 (jG) (j0 (pv 12) (j4))))) (fun _ _=>rfl)) rfl)
 (j3 (jH (i:=8) qg.nd rfl (Or.inl rfl) (jK (Wm T) (hr.mono (by decide)) rfl T.mg_zv T.F_zv.kp (j1J T) .nil jP (j0 (pv 8) (j0 (pv 12) (j4)))))
 (j6 (jH (i:=7) qg.nd rfl (Or.inl rfl) (jK (Kc T) (hr.mono (by decide)) rfl T.mg_zo T.F_zo.kp (W1 T) .nil jP (j0 (pv 7) (j0 (pv 8) (j0 (pv 1) (j0 (pv 9) (j4))))))))))))))))))
 (j3 (jH (i:=13) qg.nd rfl (Or.inl rfl) (jK (Xz T) (hr.mono (by decide)) rfl T.mg_zk T.F_zk.kp (WD T) .nil jP (j0 (pv 7) (j0 (pv 8) (j0 (pv 1) (j0 (pv 9) (j4)))))))
 (j3 (jz (PW.pt (v0 (qo (qv (jK (KO T) (hr.mono (by decide)) rfl T.mg_zd T.F_zd.kp (j0M T) .nil jP (j0 (jb (zV K) (pv 6) (jG) (fun _ _=>rfl)) (j0 (pv 1) (j0 (jb (jE K) (pv 13) (jG) (fun _ _=>rfl)) (j0 (jb (jE K) (pv 13) (jG) (fun _ _=>rfl)) (j4)))))))) (zc (qo (qv (jK (wj T) (hr.mono (by decide)) rfl T.mg_zW T.F_zW.kp (j0l T) .nil jP (j0 (jb (zV K) (pv 6) (jG) (fun _ _=>rfl)) (j0 (pv 10) (j4)))))))))
 (j6 (jO (yQ)))
 (jS))
 (j3 (jz (jX yc (jK (Zo T) (hr.mono (by decide)) rfl T.mg_zt T.F_zt.kp (UU T) .nil jP (j0 (jJ K (jb (zV K) (pv 6) (jG) (fun _ _=>rfl)) rfl) (j0 (jJ K (jb (zV K) (pv 6) (jG) (fun _ _=>rfl)) rfl) (j0 (jG) (j0 (pv 3) (j0 (pv 4) (j0 (jG) (j4)))))))) (qf) (je _))
 (j6 (jO (yQ)))
 (jS))
 (j3 (jz (PW.pt (v0 (jX yg (jI (jB K) rfl T.m_len PySem.boot_len (j0 (jJ K (jb (zV K) (pv 6) (jG) (fun _ _=>rfl)) rfl) (j4))) (jK (wJ T) (hr.mono (by decide)) rfl T.mg_zn T.F_zn.kp (j1B T) .nil jP (j0 (pv 3) (j0 (pv 4) (j4)))) (je _)) (zc (qo (qv (jK (Vn T) (hr.mono (by decide)) rfl T.mg_zm T.F_zm.kp (UA T) .nil jP (j0 (jb (zV K) (pv 6) (jG) (fun _ _=>rfl)) (j4))))))))
 (j6 (jO (yQ)))
 (jS))
 (j6 (jO (vS Qe (jq y8 (jb (zV K) (pv 6) (jG) (fun _ _=>rfl)) (jI (jB K) rfl T.m_len PySem.boot_len (j0 (pv 10) (j4)))) (jI ZN rfl T.m_len PySem.boot_len (j0 (pv 9) (j4))) (je _))))))))))))))))))),?_⟩
  walk_at "w";refine ⟨a,ns,0,rfl,hS,by decide,?_⟩;walk_at "w";obtain ⟨d,hd⟩:∃ d,d=1+zY ns 0 % 3:=⟨_,rfl⟩;have hd1:1≤d:=by omega
  have hd3:d≤3:=by omega
  have hd6:d≤6:=by omega
  rw [← hd];refine ⟨a,ns,1,rfl,hS,by decide,?_⟩;walk_at "w";obtain ⟨r,hr⟩:∃ r,r=1+zY ns 1 % 4:=⟨_,rfl⟩;have hr1:1≤r:=by omega
  have hr4:r≤4:=by omega
  rw [← hr];refine ⟨a,ns,2,rfl,hS,by decide,?_⟩;walk_at "w";refine ⟨_,d,r,rfl,by omega,by omega,by omega,by omega,fun aw rs H1 s1 M1 new1=>?_⟩;have hW:Ways d (zj (zY ns 2) d r):=Zf _ (by omega) (by omega);have hWl:(zj (zY ns 2) d r).length=r.toNat:=xR _ _ _;generalize zj (zY ns 2) d r=rss at M1 hW hWl;walk_at "w";refine ⟨a,ns,3,rfl,qa s1 hS,by decide,?_⟩;walk_at "w";refine ⟨_,r,rfl,by omega,by omega,fun al hal=>?_⟩;have hLl:(zr (zY ns 3) r).length=rss.length:=by rw [Y1,hWl]
  generalize zr (zY ns 3) r=ls at hLl ⊢;have s2:j7 H1 (upd H1 al (.lst (ls.map V.bl))):=j7.upd_new hal;have al2:(upd H1 al (.lst (ls.map V.bl))) al=some (.lst (ls.map V.bl)):=j1;generalize upd H1 al (.lst (ls.map V.bl))=H2 at s2 al2 ⊢;have M2:=M1.same s2;have Vd:zA d rss ls:={ row:=hW.row,d1:=hd1,d6:=by omega,r1:=by omega,r400:=by omega,ll:=hLl };have hrr:(rss.length:Int)=r:=by omega
  obtain ⟨kept,Kd⟩:=VX (ls:=ls) hW (by omega);have hkr:=Kd.rooms hW (by omega);clear M1 new1 hal hWl hLl;walk_at "w";intro hp hdx e1 e2 e3;have sm:j7 H2 (upd (upd H2 hdx (.own hp)) hp (.ins t.C_House hdx [])):=(j7.upd_new e2).trans (j7.upd_new (by rw [j5 (Ne.symm e3)];exact e1));refine ⟨hp,hdx,d,aw,rs,rss,al,ls,rfl,j1,M2.same sm,SqL.of (sm _ _ al2),Vd,fun H3 aw3 rs3 al3 hh3 keep3 new3=>⟨rfl,?_⟩⟩;have s3:j7 H2 H3:=fun b o e=>keep3 b o (sm b o e) (jA e e1);have M3:=M2.same s3;have al3':=s3 _ _ al2;clear keep3 new3 sm;walk_at "w";refine ⟨hp,d,aw3,rs3,rss,al3,ls,kept,rfl,hh3,Vd,Kd,by omega,fun H4 tp gp gw gs gl fa fA kn heads tails told n s4 htp hh4 V4 hfa lf I4 P4 Cl4 heq4 htl4 hhk4 nd4 hk4=>?_⟩;have M4:=M3.same s4;have al4:=s4 _ _ al3';have hh34:=hh3.same s4;have s04:j7 H H4:=s1.trans (s2.trans (s3.trans s4));have PE4:VF d rss ls kn heads tails:=⟨Cl4.1,heq4⟩;walk_at "w";refine ⟨_,_,_,_,true,rfl,.tup htp,rfl,rfl,?_⟩;walk_at "w";refine jU rfl ?_;walk_at "w";refine ⟨tp,_,rfl,.inr (SqT.of htp),?_⟩;walk_at "w";refine v7 rfl ?_;walk_at "w";refine jU rfl ?_;walk_at "w";refine ⟨hp,d,aw3,rs3,rss,al3,ls,aw,rs,al,rfl,hh34,M4,SqL.of al4,by omega,?_⟩;walk_at "w";refine jU rfl ?_;walk_at "w";refine ⟨Nat.zero_le _,fun h0 hh0=>?_⟩;have t1:j7 H4 (upd H4 h0 (.lst [])):=j7.upd_new hh0;have h01:(upd H4 h0 (.lst [])) h0=some (.lst (([]:List Int).map V.int)):=j1;generalize upd H4 h0 (.lst [])=H5 at t1 h01 ⊢;walk_at "w";refine ⟨by show 1≤sizeLine;decide,fun ha hha=>?_⟩;have t2:j7 H5 (upd H5 ha (.lst [.ref h0])):=j7.upd_new hha;have ha2:(upd H5 ha (.lst [.ref h0])) ha=some (.lst ([h0].map V.ref)):=j1;generalize upd H5 ha (.lst [.ref h0])=H6 at t2 ha2 ⊢;walk_at "w";refine ⟨Nat.zero_le _,fun t0 ht0=>?_⟩;have t3:j7 H6 (upd H6 t0 (.lst [])):=j7.upd_new ht0;have t03:(upd H6 t0 (.lst [])) t0=some (.lst (([]:List Int).map V.int)):=j1;generalize upd H6 t0 (.lst [])=H7 at t3 t03 ⊢;walk_at "w";refine ⟨by show 1≤sizeLine;decide,fun ta hta=>?_⟩;have t4:j7 H7 (upd H7 ta (.lst [.ref t0])):=j7.upd_new hta;have ta4:(upd H7 ta (.lst [.ref t0])) ta=some (.lst ([t0].map V.ref)):=j1;generalize upd H7 ta (.lst [.ref t0])=H8 at t4 ta4 ⊢;walk_at "w";intro kd hkd;have t5:j7 H8 (upd H8 kd (.dT [])):=j7.upd_new hkd;have kd5:(upd H8 kd (.dT [])) kd=some (.dT (([]:Bk).map bkv)):=j1;generalize upd H8 kd (.dT [])=H9 at t5 kd5 ⊢;walk_at "w";refine ⟨Nat.zero_le _,fun wa hwa=>?_⟩;have t6:j7 H9 (upd H9 wa (.lst [])):=j7.upd_new hwa;have wa6:(upd H9 wa (.lst [])) wa=some (.lst (([]:List Addr).map V.ref)):=j1;generalize upd H9 wa (.lst [])=H10 at t6 wa6 ⊢;have t48:j7 H4 H8:=t1.trans (t2.trans (t3.trans t4));have ha8:H8 ha=some (.lst ([h0].map V.ref)):=t4 _ _ (t3 _ _ ha2)
  have h08:H8 h0=some (.lst (([]:List Int).map V.int)):=t4 _ _ (t3 _ _ (t2 _ _ h01));have t08:H8 t0=some (.lst (([]:List Int).map V.int)):=t4 _ _ t03;have J0:I19 H4 H10 d rss ls kd wa [] [[]] [[]] [] 0 ha ta [h0] [t0] []:=by
   have k:∀ b o,H8 b=some o→H10 b=some o:=fun b o e=>t6 _ _ (t5 _ _ e);have sp:∀ b o,H8 b=some o→b≠kd∧b≠wa:=fun b o e=>⟨jA e hkd,jA (t5 _ _ e) hwa⟩;refine ⟨t48.trans (t5.trans t6),k _ _ ha8,⟨rfl,fun i b v h1 h2=>?_⟩,k _ _ ta4,⟨rfl,fun i b v h1 h2=>?_⟩,t6 _ _ kd5,wa6,⟨rfl,fun i b v h1 h2=>by simp at h1⟩,jA kd5 hwa,fun b hb=>?_,t48.free hkd,(t48.trans t5).free hwa,yP.start⟩
   ·cases i with
    | zero=>simp at h1 h2;subst h1 h2;exact k _ _ h08
    | succ i=>simp at h1
   ·cases i with
    | zero=>simp at h1 h2;subst h1 h2;exact k _ _ t08
    | succ i=>simp at h1
   ·simp only [List.mem_cons,List.mem_append,List.not_mem_nil,or_false] at hb;rcases hb with rfl | rfl | rfl | rfl
    ·exact sp _ _ ha8
    ·exact sp _ _ ta4
    ·exact sp _ _ h08
    ·exact sp _ _ t08
  clear t1 t2 t3 t4 t5 t6 h01 ha2 t03 ta4 kd5 wa6 t48 ha8 h08 t08 hh0 hha ht0 hta hkd hwa;walk_at "w";refine qp (E19 H4 d rss ls kd wa a r aw al hp tp kn heads tails told n) ?_ ?_
  rotate_left
  ·rintro σ' H15 ⟨ha1,ta1,hA2,tA1,wA1,k11,k12,k13,J15,rfl⟩
   clear J0 ha ta;obtain ⟨X,f1,f2,f3,f4,f5,f6,f7,f8⟩:=J15.few Kd Vd (by omega);have VJ:=X.I.valid Cl4 hd1 hd6 (by omega);have eG:(jR d kn heads tails).length=heads.length:=by unfold jR;rw [List.length_map]
   have PI:Jn d (jR d kn heads tails) rss (jf kn heads) ls 0 0:=⟨VJ.toWays,hW,VJ.ll,Vd.ll,Int.le_refl 0,by have:=VJ.r1;omega,Int.le_refl 0,by omega,hd1,hd6,by
    rw [eG];have:rss.length≤4:=by omega
    have:=Nat.mul_le_mul f2 this;omega⟩
   walk_at "w";refine ⟨ha1,ta1,kd,hA2,tA1,d,_,_,_,rfl,J15.hS,J15.lh,J15.tS,J15.lt,J15.hk,hd1,hd6,X.I,Cl4,by omega,by omega,f7,fun H16 pr2 pwa2 prs2 pla2 s16 hpr2 Mp2 hpl2 newp2=>?_⟩;have J16:=J15.tick s16;have tp16:=J16.same _ _ htp;have gh16:=hh4.same J16.same;have hf16:=J16.same _ _ hfa;walk_at "w";refine ⟨tp,_,0,_,rfl,rfl,SqT.of tp16,jY (j:=0) rfl,?_⟩;walk_at "w";refine ji (SqL.of hpr2) (jY (j:=0) rfl) ?_;walk_at "w";refine ji (SqL.of hpr2) (jY (j:=1) rfl) ?_;walk_at "w";refine ⟨gp,d,gw,gs,_,gl,_,pwa2,prs2,pla2,rfl,gh16,Mp2,SqL.of hpl2,by omega,?_⟩;walk_at "w";refine jU rfl ?_;walk_at "w";refine ⟨tp,_,1,_,rfl,rfl,SqT.of tp16,jY (j:=1) rfl,?_⟩;walk_at "w";refine ⟨fa,wa,fA,wA1,_,rfl,hf16,lf.keep (fun b _ o e=>J16.same b o e),SqL.of J16.ws,J16.ww,by omega,?_⟩;walk_at "w";refine jU rfl ?_;walk_at "w";obtain ⟨gdx,hgo⟩:=gh16.ob;refine xw (a:=0) ?_;walk_at "w";refine ⟨tp,_,0,_,rfl,rfl,SqT.of tp16,jY (j:=0) rfl,?_⟩;refine ⟨gp,_,gdx,_,_,rfl,hgo,T.cl_House,T.na_House_ways,yO _ _ _,?_⟩;walk_at "w";refine xw (a:=0) ?_;walk_at "w";refine ⟨tp,_,0,_,rfl,rfl,SqT.of tp16,jY (j:=0) rfl,?_⟩;refine ⟨gp,_,gdx,_,_,rfl,hgo,T.cl_House,T.na_House_lamps,zG _ _ _,?_⟩;walk_at "w";refine ⟨gw,gs,_,gl,_,0,aw,rs,rss,al,ls,0,d,rfl,gh16.ways,SqL.of gh16.lamps,M4.same J16.same,SqL.of (J16.same _ _ al4),PI,fun H17 s17 _=>?_,fun H17 wb w s17 hwb hwn P=>absurd (heq4 w P.ok) P.un⟩;walk_at "w";refine ⟨rfl,?_⟩;walk_at "w";refine jU rfl ?_;have J17:=J16.tick s17;have gh17:=gh16.same s17;have tp17:=s17 _ _ tp16;obtain ⟨gdx7,hgo7⟩:=gh17.ob;walk_at "w";refine xw (a:=0) ?_;walk_at "w";refine ⟨tp,_,0,_,rfl,rfl,SqT.of tp17,jY (j:=0) rfl,?_⟩;refine ⟨gp,_,gdx7,_,_,rfl,hgo7,T.cl_House,T.na_House_ways,yO _ _ _,?_⟩;refine ⟨gw,_,rfl,.inl (SqL.of gh17.ways.top),?_⟩;walk_at "w";refine ⟨aw,al,rs,rss,ls,d,rfl,M4.same J17.same,J17.same _ _ al4,hW,by omega,by omega,Vd.ll,hd1,hd6,fun H18 kept8 s18 Kd8=>?_⟩;have hk8:(gs.map V.ref).length=kept8.length:=by
    have h1:=X.I.heads_le J15.P.fits Kd8;have h2:=Kd8.le VJ.toWays VJ.r1 fun w hw=>(heq4 w hw).symm;rw [List.length_map,gh17.ways.len,eG];omega
   rw [hk8];refine v7 rfl ?_;walk_at "w";refine jU (by simp) ?_;walk_at "w";refine ⟨tp,_,2,_,rfl,rfl,SqT.of (s18 _ _ tp17),jY (j:=2) rfl,?_⟩;walk_at "w";refine ⟨(n:Nat),rfl,?_⟩;walk_at "w";refine jU rfl ?_;have J18:=J17.tick s18;walk_at "w";refine ⟨tp,_,2,_,rfl,rfl,SqT.of (s18 _ _ tp17),jY (j:=2) rfl,?_⟩;walk_at "w";refine ⟨wa,_,rfl,.inl (SqL.of J18.ws),?_⟩;walk_at "w";refine ⟨kd,_,rfl,J18.hk,?_⟩;walk_at "w";refine Zy rfl ?_;have e9:=J15.P.len;have e8:=J18.ww.len;have e7:decide (V.int ((n:Int)+((wA1.map V.ref).length:Nat))=V.int ((kn.map bkv).length:Nat))=true:=by
    apply decide_eq_true;congr 1;rw [List.length_map,List.length_map,e8];omega
   rw [e7];exact q _
  walk_at "w";refine ⟨_,rfl,by omega,by omega,?_⟩;refine qR (F19 H4 d rss ls kd wa a r aw al hp tp) ⟨_,_,_,_,_,_,_,_,_,_,_,_,_,J0,rfl,rfl⟩ (fun i σ H11 hi pp=>?_) (fun σ H11 pp=>?_)
  ·obtain ⟨kn1,heads1,tails1,told1,n1,ha1,ta1,hA1,tA1,wA1,k11,k12,k13,J,hti,rfl⟩:=pp;clear J0 ha ta;walk_at "w";refine qp (J19 H4 d rss ls kd wa a r aw al hp tp ta1 tails1 told1 tA1 wA1 k13) ?_ ?_
   ·obtain ⟨X,f1,f2,f3,f4,f5,f6,f7,f8⟩:=J.few Kd Vd (by omega);walk_at "w";refine ⟨ha1,ta1,kd,hA1,tA1,d,kn1,heads1,tails1,rfl,SqL.of J.hS,J.lh,SqL.of J.tS,J.lt,J.hk,hd1,hd6,f6,f7,fun hq H12 s12=>?_,fun w hq H12 wb s12 hwn hwv=>?_⟩
    ·walk_at "w";exact ⟨_,_,ha1,_,rfl,kn1,heads1,n1,hA1,J.tick s12,rfl,.inl ⟨rfl,hq⟩⟩
    ·walk_at "w";exact ⟨_,_,ha1,_,rfl,kn1,heads1,n1,hA1,J.tick s12,rfl,.inr ⟨wb,w,rfl,hq,hwv⟩⟩
   clear J
   rintro σ' H12 ⟨v,m,ha1,k11,rfl,hv⟩
   walk_at "w";refine ⟨L19 H4 d rss ls kd wa a r aw al hp tp ta1 tails1 told1 tA1 wA1 k11 k13,⟨m,v,ha1,rfl,hv⟩,?_⟩;clear hv
   rintro m σ H13 ⟨v,ha1,rfl,kn2,heads2,n2,hA2,J,rfl,hv⟩
   obtain ⟨X,f1,f2,f3,f4,f5,f6,f7,f8⟩:=J.few Kd Vd (by omega);walk_at "w";refine ⟨rfl,?_⟩;walk_at "w";rcases hv with ⟨rfl,hq⟩ | ⟨wb,w,rfl,hq,hwb⟩
   ·refine jU rfl ?_;have Cl:=vf X.st hq;have VJ:=X.I.valid Cl hd1 hd6 (by omega);have eG:(jR d kn2 heads2 tails1).length=heads2.length:=by unfold jR;rw [List.length_map]
    walk_at "w";refine ⟨ha1,ta1,kd,hA2,tA1,d,kn2,heads2,tails1,rfl,J.hS,J.lh,J.tS,J.lt,J.hk,hd1,hd6,X.I,Cl,by omega,by omega,f7,fun H14 pr pwa prs pla s14 hpr Mp hpl newp=>?_⟩;have J14:=J.tick s14;walk_at "w";refine ji (SqL.of hpr) (jY (j:=0) rfl) ?_;walk_at "w";refine ji (SqL.of hpr) (jY (j:=1) rfl) ?_;walk_at "w";have PI:Jn d (jR d kn2 heads2 tails1) rss (jf kn2 heads2) ls 0 0:=⟨VJ.toWays,hW,VJ.ll,Vd.ll,Int.le_refl 0,by have:=VJ.r1;omega,Int.le_refl 0,by omega,hd1,hd6,by
     rw [eG];have:rss.length≤4:=by omega
     have:=Nat.mul_le_mul f2 this;omega⟩
    refine ⟨pwa,prs,_,pla,_,0,aw,rs,rss,al,ls,0,d,rfl,Mp,SqL.of hpl,M4.same J14.same,SqL.of (J14.same _ _ al4),PI,fun H15 s15 heq=>?_,fun H15 wb w s15 hwb hwn P=>?_⟩
    ·have J15:=J14.tick s15;have PE:VF d rss ls kn2 heads2 tails1:=⟨hq,heq⟩;obtain ⟨rfl,rfl,rfl,rfl,rfl⟩:=P4.one PE4 J.P PE;walk_at "w";refine ⟨rfl,?_⟩;walk_at "w";refine qK rfl ?_;walk_at "w";refine Xf ?_;exact ⟨ha1,ta1,hA2,tA1,wA1,_,_,_,J15,rfl⟩
    ·have J15:=J14.tick s15;walk_at "w";refine ⟨rfl,?_⟩;walk_at "w";refine jU rfl ?_;have nk:wb≠kd:=fun z=>by rw [z,J14.hk] at hwn;cases hwn
     have nw:wb≠wa:=fun z=>by rw [z,J14.ws] at hwn;cases hwn
     have hno:saidO kn2 w=none:=by
      cases e:saidO kn2 w with
      | none=>rfl
      | some b=>exact absurd ((X.I.says Cl e).trans (J.P.fits w b e).symm) P.un
     have hwo:jD d w:=P.ok;have hw22:w.length≤22:=by
      have h1:=xY VJ.toWays hW (Int.le_refl 0) (by have:=VJ.r1;omega) (Int.le_refl 0) (by have:=Vd.r1;omega) P.ok P.un fun u hu hul=>P.least u hu (vV hul);rw [eG] at h1;omega
     obtain ⟨u0,u1⟩:=q0 hW hwo (Int.le_refl 0) (by omega);have hlt:(jF rss 0 w).toNat < ls.length:=by rw [Vd.ll];omega
     have hlv:ls[(jF rss 0 w).toNat]?=some (jW rss ls w):=by
      unfold jW;rw [List.getD_eq_getElem?_getD,List.getElem?_eq_getElem hlt];rfl
     walk_at "w";refine ⟨.inl ⟨rfl,_,SqL.of J15.ws⟩,?_⟩;walk_at "w";refine ⟨wa,_,_,rfl,rfl,J15.ws,qj (by rw [List.length_map,J15.ww.len];omega),?_⟩;have k16:∀ b o,b≠wa→H15 b=some o→upd H15 wa (.lst (wA1.map V.ref++[.ref wb])) b=some o:=fun b o hb e=>by rw [j5 hb];exact e
     have wa16:(upd H15 wa (.lst (wA1.map V.ref++[.ref wb]))) wa=some (.lst ((wA1++[wb]).map V.ref)):=by rw [j1,List.map_append];rfl
     generalize upd H15 wa (.lst (wA1.map V.ref++[.ref wb]))=H16 at k16 wa16 ⊢;have same16:j7 H4 H16:=fun b o e=>k16 b o (fun z=>by rw [z,J.w0] at e;cases e) (J15.same b o e);have wb16:=k16 _ _ nw hwb;have kd16:=k16 _ _ J.ne J15.hk;walk_at "w";refine ⟨aw,rs,rss,d,0,wb,w,rfl,M4.same same16,hW,SqL.of wb16,hwo,by omega,by omega,?_⟩;refine ji (SqL.of (same16 _ _ al4)) (js u0 (yh hlv)) ?_;walk_at "w";refine ⟨wb,_,rfl,.inl ⟨SqL.of wb16,fun tq htq=>?_⟩⟩;have s17:j7 H16 (upd H16 tq (.tup (w.map V.int))):=j7.upd_new htq;have tq17:(upd H16 tq (.tup (w.map V.int))) tq=some (.tup ((w.map (Sum.inl:Int→Key)).map kV)):=by rw [j1,zg]
     generalize upd H16 tq (.tup (w.map V.int))=H17 at s17 tq17 ⊢;refine ⟨kd,_,rfl,xE.t (s17 _ _ kd16) tq17 (by rw [List.length_map];exact qj (by omega)),?_⟩;rw [zI _ (by rw [yA,hno];rfl)];have kd18:(upd H17 kd (.dT (kn2.map bkv++[(w.map Sum.inl,.bl (jW rss ls w))]))) kd=some (.dT ((kn2++[(w,jW rss ls w)]).map bkv)):=by rw [j1,List.map_append];rfl
     have k18:∀ b o,b≠kd→H16 b=some o→upd H17 kd (.dT (kn2.map bkv++[(w.map Sum.inl,.bl (jW rss ls w))])) b=some o:=fun b o hb e=>by rw [j5 hb];exact s17 _ _ e
     generalize upd H17 kd (.dT (kn2.map bkv++[(w.map Sum.inl,.bl (jW rss ls w))]))=H18 at kd18 k18 ⊢;have kk:∀ b o,b≠kd→b≠wa→H15 b=some o→H18 b=some o:=fun b o h1 h2 e=>k18 b o h1 (k16 b o h2 e);have same18:j7 H4 H18:=fun b o e=>k18 b o (fun z=>by rw [z,J.k0] at e;cases e) (same16 b o e);have kin:∀ b∈ha1 :: ta1 :: (hA2++tA1++wA1),∀ o,H15 b=some o→H18 b=some o:=fun b hb o e=>kk b o (J.sep b hb).1 (J.sep b hb).2 e;have hS18:=kin ha1 (by simp) _ J15.hS;have tS18:=kin ta1 (by simp) _ J15.tS;have lh18:LsAt V.int H18 hA2 heads2:=J15.lh.keep fun b hb o e=>kin b (by simp [hb]) o e;have lt18:LsAt V.int H18 tA1 tails1:=J15.lt.keep fun b hb o e=>kin b (by simp [hb]) o e;have wb18:H18 wb=some (.lst (w.map V.int)):=k18 _ _ nk wb16;have wa18:=k18 _ _ (Ne.symm J.ne) wa16;have ww18:LsAt V.int H18 (wA1++[wb]) (told1++[w]):=LsAt.snoc (J15.ww.keep fun b hb o e=>kin b (by simp [hb]) o e) wb18;have Fn:=J.P.fits.add w;have I18:=X.I.told (jW rss ls w) hwo hno;have Pn:=J.P.tell hq P;clear k16 wa16 wb16 kd16 s17 tq17 k18 kk same16 htq;walk_at "w";refine ⟨ta1,wb,tA1,tails1,w,rfl,tS18,lt18,SqL.of wb18,by omega,by omega,fun H19 ta2 tA2 s19 tS19 lt19 new19=>?_⟩;have hen:(yW tails1 w).length≤100000∧∀ t∈yW tails1 w,t.length≤100000:=by
      have X':=Pn.inv Kd Vd (by omega);have h1:=X'.ti;have h2:=X'.tw;rw [List.length_append,List.length_singleton] at h1;exact ⟨by omega,fun t ht=>by have:=h2 t ht;omega⟩
     walk_at "w";refine ⟨ha1,ta2,kd,hA2,tA2,d,_,heads2,_,rfl,s19 _ _ hS18,lh18.keep (fun b _ o e=>s19 b o e),tS19,lt19,s19 _ _ kd18,hd1,hd6,I18,(fun hs Ih=>by have:=Ih.heads_le Fn Kd;omega),hen.1,hen.2,fun H20 ha3 hA3 s20 hS20 lh20 new20=>?_⟩;walk_at "w";have fr19:∀ b,H18 b=none→b≠kd∧b≠wa:=fun b z=>⟨(fun y=>by rw [y,kd18] at z;cases z),(fun y=>by rw [y,wa18] at z;cases z)⟩;have fr20:∀ b,H19 b=none→b≠kd∧b≠wa:=fun b z=>fr19 b (s19.free z);refine ⟨_,_,_,_,n2,ha3,ta2,hA3,tA2,wA1++[wb],_,_,_,⟨same18.trans (s19.trans s20),hS20,lh20,s20 _ _ tS19,lt19.keep (fun b _ o e=>s20 b o e),s20 _ _ (s19 _ _ kd18),s20 _ _ (s19 _ _ wa18),ww18.keep (fun b _ o e=>s20 _ _ (s19 _ _ e)),J.ne,fun b hb=>?_,J.k0,J.w0,Pn⟩,by rw [List.length_append,List.length_singleton,hti],rfl⟩;simp only [List.mem_cons,List.mem_append,List.not_mem_nil,or_false] at hb;rcases hb with h | h | (h | h) | h | h
     ·rcases new20 b (by simp [h]) with z | z
      ·exact J.sep b (by simp only [List.mem_cons,List.mem_append] at z ⊢;rcases z with z | z <;> simp [z])
      ·exact fr20 b z
     ·rcases new19 b (by simp [h]) with z | z
      ·exact J.sep b (by simp only [List.mem_cons,List.mem_append] at z ⊢;rcases z with z | z <;> simp [z])
      ·exact fr19 b z
     ·rcases new20 b (by simp [h]) with z | z
      ·exact J.sep b (by simp only [List.mem_cons,List.mem_append] at z ⊢;rcases z with z | z <;> simp [z])
      ·exact fr20 b z
     ·rcases new19 b (by simp [h]) with z | z
      ·exact J.sep b (by simp only [List.mem_cons,List.mem_append] at z ⊢;rcases z with z | z <;> simp [z])
      ·exact fr19 b z
     ·exact J.sep b (by simp [h])
     ·rw [h];exact ⟨nk,nw⟩
   ·refine qK rfl ?_;refine ⟨B19 H4 d rss ls kd wa a r aw al hp tp ta1 tails1 told1 tA1 wA1 k11 k13 (90001 - kn2.length),?_,?_⟩
    ·rintro σ' H' ⟨v,ha,m',hm,rfl,hv⟩
     exact ⟨m',hm,v,ha,rfl,hv⟩
    obtain ⟨hwo,hno⟩:=X.I.qok hq;obtain ⟨u0,u1⟩:=q0 hW hwo (Int.le_refl 0) (by omega);have hlt:(jF rss 0 w).toNat < ls.length:=by rw [Vd.ll];omega
    have hlv:ls[(jF rss 0 w).toNat]?=some (jW rss ls w):=by
     unfold jW;rw [List.getD_eq_getElem?_getD,List.getElem?_eq_getElem hlt];rfl
    walk_at "w";refine ⟨aw,rs,rss,d,0,wb,w,rfl,M4.same J.same,hW,SqL.of hwb,hwo,by omega,by omega,?_⟩;refine ji (SqL.of (J.same _ _ al4)) (js u0 (yh hlv)) ?_;walk_at "w";refine ⟨wb,_,rfl,.inl ⟨SqL.of hwb,fun tq htq=>?_⟩⟩;have s14:j7 H13 (upd H13 tq (.tup (w.map V.int))):=j7.upd_new htq;have tq14:(upd H13 tq (.tup (w.map V.int))) tq=some (.tup ((w.map (Sum.inl:Int→Key)).map kV)):=by rw [j1,zg]
    generalize upd H13 tq (.tup (w.map V.int))=H14 at s14 tq14 ⊢;have J14:=J.tick s14;refine ⟨kd,_,rfl,xE.t J14.hk tq14 (by rw [List.length_map];exact qj (by omega)),?_⟩;rw [zI _ (by rw [yA,hno];rfl)];have kd15:(upd H14 kd (.dT (kn2.map bkv++[(w.map Sum.inl,.bl (jW rss ls w))]))) kd=some (.dT ((kn2++[(w,jW rss ls w)]).map bkv)):=by rw [j1,List.map_append];rfl
    have k15:∀ b o,b≠kd→H14 b=some o→upd H14 kd (.dT (kn2.map bkv++[(w.map Sum.inl,.bl (jW rss ls w))])) b=some o:=fun b o hb e=>by rw [j5 hb];exact e
    generalize upd H14 kd (.dT (kn2.map bkv++[(w.map Sum.inl,.bl (jW rss ls w))]))=H15 at kd15 k15 ⊢;obtain ⟨p1,p2,p3,p4,p5,p6,p7⟩:=J14.put (kn':=kn2) k15;have Fn:=J.P.fits.add w;have I15:=X.I.note (jW rss ls w) hq;walk_at "w";refine ⟨ha1,ta1,kd,hA2,tA1,d,_,heads2,tails1,rfl,p2,p3,p4,p5,kd15,hd1,hd6,I15,(fun hs Ih=>by have:=Ih.heads_le Fn Kd;omega),by omega,f7,fun H16 ha3 hA3 s16 hh16 lh16 new16=>?_⟩;have J16:I19 H4 H16 d rss ls kd wa (kn2++[(w,jW rss ls w)]) (zQ d (kn2++[(w,jW rss ls w)]) tails1 heads2) tails1 told1 (n2+1) ha3 ta1 hA3 tA1 wA1:=by
     refine ⟨p1.trans s16,hh16,lh16,s16 _ _ p4,p5.keep fun b _ o e=>s16 b o e,s16 _ _ kd15,s16 _ _ p6,p7.keep fun b _ o e=>s16 b o e,J.ne,fun b hb=>?_,J.k0,J.w0,J.P.ask hq⟩;have fresh:H15 b=none→b≠kd∧b≠wa:=fun z=>⟨(fun y=>by rw [y,kd15] at z;cases z),(fun y=>by rw [y,p6] at z;cases z)⟩;simp only [List.mem_cons,List.mem_append] at hb;rcases hb with h | h | (h | h) | h
     ·rcases new16 b (by simp [h]) with z | z
      ·exact J.sep b (by simp only [List.mem_cons,List.mem_append] at z ⊢;rcases z with z | z <;> simp [z])
      ·exact fresh z
     ·exact J.sep b (by simp [h])
     ·rcases new16 b (by simp [h]) with z | z
      ·exact J.sep b (by simp only [List.mem_cons,List.mem_append] at z ⊢;rcases z with z | z <;> simp [z])
      ·exact fresh z
     ·exact J.sep b (by simp [h])
     ·exact J.sep b (by simp [h])
    have hm9:90001 - (kn2++[(w,jW rss ls w)]).length < 90001 - kn2.length:=by rw [List.length_append,List.length_singleton];omega
    clear p1 p2 p3 p4 p5 p6 p7 kd15 k15 J14 tq14 s14;obtain ⟨X',g1,g2,g3,g4,g5,g6,g7,g8⟩:=J16.few Kd Vd (by omega);walk_at "w";refine qp (B19 H4 d rss ls kd wa a r aw al hp tp ta1 tails1 told1 tA1 wA1 k11 k13 (90001 - kn2.length)) ?_ (fun σ' H' z=>z);walk_at "w";refine ⟨ha3,ta1,kd,hA3,tA1,d,_,_,tails1,rfl,SqL.of J16.hS,J16.lh,SqL.of J16.tS,J16.lt,J16.hk,hd1,hd6,g6,g7,fun hq' H17 s17=>?_,fun w' hq' H17 wb' s17 hwn' hwv'=>?_⟩
    ·walk_at "w";exact ⟨_,ha3,_,hm9,rfl,_,_,_,hA3,J16.tick s17,rfl,.inl ⟨rfl,hq'⟩⟩
    ·walk_at "w";exact ⟨_,ha3,_,hm9,rfl,_,_,_,hA3,J16.tick s17,rfl,.inr ⟨wb',w',rfl,hq',hwv'⟩⟩
  ·obtain ⟨kn1,heads1,tails1,told1,n1,ha1,ta1,hA1,tA1,wA1,k11,k12,k13,J,hti,rfl⟩:=pp;obtain ⟨X,f1,f2,f3,_⟩:=J.few Kd Vd (by omega);exfalso;omega
end
theorem txt_mk {K:PySem.W.Frag} {h:Heap} {mg:Str→Option Value} (X:K.In h) (G:h.Ns mainGlobals mg) {tk_MOST_DOORS:Tok} {tk_MOST_ROOMS:Tok} {C_House:Addr} {C_Book:Addr} {C_Learner:Addr} {C_BadWord:Addr} {C_OtherDoors:Addr} {C_SaidOtherwise:Addr} {f0:Addr} {oc0 kV0 dc0 pm0 cd0 ct0:Value} {od0 an0:Option Addr} {sl0:Array (Option Value)} {f1:Addr} {oc1 kV1 dc1 pm1 cd1 ct1:Value} {od1 an1:Option Addr} {sl1:Array (Option Value)} {f2:Addr} {oc2 kV2 dc2 pm2 cd2 ct2:Value} {od2 an2:Option Addr} {sl2:Array (Option Value)} {f3:Addr} {oc3 kV3 dc3 pm3 cd3 ct3:Value} {od3 an3:Option Addr} {sl3:Array (Option Value)} {f4:Addr} {oc4 kV4 dc4 pm4 cd4 ct4:Value} {od4 an4:Option Addr} {sl4:Array (Option Value)} {f5:Addr} {oc5 kV5 dc5 pm5 cd5 ct5:Value} {od5 an5:Option Addr} {sl5:Array (Option Value)} {f6:Addr} {oc6 kV6 dc6 pm6 cd6 ct6:Value} {od6 an6:Option Addr} {sl6:Array (Option Value)} {f7:Addr} {oc7 kV7 dc7 pm7 cd7 ct7:Value} {od7 an7:Option Addr} {sl7:Array (Option Value)} {f8:Addr} {oc8 kV8 dc8 pm8 cd8 ct8:Value} {od8 an8:Option Addr} {sl8:Array (Option Value)} {f9:Addr} {oc9 kV9 dc9 pm9 cd9 ct9:Value} {od9 an9:Option Addr} {sl9:Array (Option Value)} {f10:Addr} {oc10 kV10 dc10 pm10 cd10 ct10:Value} {od10 an10:Option Addr} {sl10:Array (Option Value)} {f11:Addr} {oc11 kV11 dc11 pm11 cd11 ct11:Value} {od11 an11:Option Addr} {sl11:Array (Option Value)} {f12:Addr} {oc12 kV12 dc12 pm12 cd12 ct12:Value} {od12 an12:Option Addr} {sl12:Array (Option Value)} {f13:Addr} {oc13 kV13 dc13 pm13 cd13 ct13:Value} {od13 an13:Option Addr} {sl13:Array (Option Value)} {f14:Addr} {oc14 kV14 dc14 pm14 cd14 ct14:Value} {od14 an14:Option Addr} {sl14:Array (Option Value)} {f15:Addr} {oc15 kV15 dc15 pm15 cd15 ct15:Value} {od15 an15:Option Addr} {sl15:Array (Option Value)} {f16:Addr} {oc16 kV16 dc16 pm16 cd16 ct16:Value} {od16 an16:Option Addr} {sl16:Array (Option Value)} {f17:Addr} {oc17 kV17 dc17 pm17 cd17 ct17:Value} {od17 an17:Option Addr} {sl17:Array (Option Value)} {f18:Addr} {oc18 kV18 dc18 pm18 cd18 ct18:Value} {od18 an18:Option Addr} {sl18:Array (Option Value)} {f19:Addr} {oc19 kV19 dc19 pm19 cd19 ct19:Value} {od19 an19:Option Addr} {sl19:Array (Option Value)} {f20:Addr} {oc20 kV20 dc20 pm20 cd20 ct20:Value} {od20 an20:Option Addr} {sl20:Array (Option Value)} {f21:Addr} {oc21 kV21 dc21 pm21 cd21 ct21:Value} {od21 an21:Option Addr} {sl21:Array (Option Value)} {f22:Addr} {oc22 kV22 dc22 pm22 cd22 ct22:Value} {od22 an22:Option Addr} {sl22:Array (Option Value)} {f23:Addr} {oc23 kV23 dc23 pm23 cd23 ct23:Value} {od23 an23:Option Addr} {sl23:Array (Option Value)} {f24:Addr} {oc24 kV24 dc24 pm24 cd24 ct24:Value} {od24 an24:Option Addr} {sl24:Array (Option Value)} {f25:Addr} {oc25 kV25 dc25 pm25 cd25 ct25:Value} {od25 an25:Option Addr} {sl25:Array (Option Value)} {f26:Addr} {oc26 kV26 dc26 pm26 cd26 ct26:Value} {od26 an26:Option Addr} {sl26:Array (Option Value)} {f27:Addr} {oc27 kV27 dc27 pm27 cd27 ct27:Value} {od27 an27:Option Addr} {sl27:Array (Option Value)} {f28:Addr} {oc28 kV28 dc28 pm28 cd28 ct28:Value} {od28 an28:Option Addr} {sl28:Array (Option Value)} {f29:Addr} {oc29 kV29 dc29 pm29 cd29 ct29:Value} {od29 an29:Option Addr} {sl29:Array (Option Value)} {f30:Addr} {oc30 kV30 dc30 pm30 cd30 ct30:Value} {od30 an30:Option Addr} {sl30:Array (Option Value)} {f31:Addr} {oc31 kV31 dc31 pm31 cd31 ct31:Value} {od31 an31:Option Addr} {sl31:Array (Option Value)} {f32:Addr} {oc32 kV32 dc32 pm32 cd32 ct32:Value} {od32 an32:Option Addr} {sl32:Array (Option Value)} {f33:Addr} {oc33 kV33 dc33 pm33 cd33 ct33:Value} {od33 an33:Option Addr} {sl33:Array (Option Value)} {f34:Addr} {oc34 kV34 dc34 pm34 cd34 ct34:Value} {od34 an34:Option Addr} {sl34:Array (Option Value)} {f35:Addr} {oc35 kV35 dc35 pm35 cd35 ct35:Value} {od35 an35:Option Addr} {sl35:Array (Option Value)} {f36:Addr} {oc36 kV36 dc36 pm36 cd36 ct36:Value} {od36 an36:Option Addr} {sl36:Array (Option Value)} {f37:Addr} {oc37 kV37 dc37 pm37 cd37 ct37:Value} {od37 an37:Option Addr} {sl37:Array (Option Value)} {f38:Addr} {oc38 kV38 dc38 pm38 cd38 ct38:Value} {od38 an38:Option Addr} {sl38:Array (Option Value)} {f39:Addr} {oc39 kV39 dc39 pm39 cd39 ct39:Value} {od39 an39:Option Addr} {sl39:Array (Option Value)} {f40:Addr} {oc40 kV40 dc40 pm40 cd40 ct40:Value} {od40 an40:Option Addr} {sl40:Array (Option Value)} {f41:Addr} {oc41 kV41 dc41 pm41 cd41 ct41:Value} {od41 an41:Option Addr} {sl41:Array (Option Value)} {f42:Addr} {oc42 kV42 dc42 pm42 cd42 ct42:Value} {od42 an42:Option Addr} {sl42:Array (Option Value)} {f43:Addr} {oc43 kV43 dc43 pm43 cd43 ct43:Value} {od43 an43:Option Addr} {sl43:Array (Option Value)} {f44:Addr} {oc44 kV44 dc44 pm44 cd44 ct44:Value} {od44 an44:Option Addr} {sl44:Array (Option Value)} {f45:Addr} {oc45 kV45 dc45 pm45 cd45 ct45:Value} {od45 an45:Option Addr} {sl45:Array (Option Value)} {f46:Addr} {oc46 kV46 dc46 pm46 cd46 ct46:Value} {od46 an46:Option Addr} {sl46:Array (Option Value)} {f47:Addr} {oc47 kV47 dc47 pm47 cd47 ct47:Value} {od47 an47:Option Addr} {sl47:Array (Option Value)} {f48:Addr} {oc48 kV48 dc48 pm48 cd48 ct48:Value} {od48 an48:Option Addr} {sl48:Array (Option Value)} {f49:Addr} {oc49 kV49 dc49 pm49 cd49 ct49:Value} {od49 an49:Option Addr} {sl49:Array (Option Value)}
    (z_len:PySem.W.nsIn K mainGlobals "len"=some none)
    (z_range:PySem.W.nsIn K mainGlobals "range"=some none)
    (z_isinstance:PySem.W.nsIn K mainGlobals "isinstance"=some none)
    (z_list:PySem.W.nsIn K mainGlobals "list"=some none)
    (z_int:PySem.W.nsIn K mainGlobals "int"=some none)
    (z_bool:PySem.W.nsIn K mainGlobals "bool"=some none)
    (z_enumerate:PySem.W.nsIn K mainGlobals "enumerate"=some none)
    (z_tuple:PySem.W.nsIn K mainGlobals "tuple"=some none)
    (z_ValueError:PySem.W.nsIn K mainGlobals "ValueError"=some none)
    (z_zip:PySem.W.nsIn K mainGlobals "zip"=some none)
    (c_MOST_DOORS:PySem.W.nsIn K mainGlobals "MOST_DOORS"=some (some (.int 6 tk_MOST_DOORS)))
    (c_MOST_ROOMS:PySem.W.nsIn K mainGlobals "MOST_ROOMS"=some (some (.int 400 tk_MOST_ROOMS)))
    (a_House:PySem.W.nsIn K mainGlobals "House"=some (some (.ref C_House)))
    (pg_House:PySem.W.plainGet K C_House Str.empty=true)
    (hd_House:PySem.W.hasDictIn K C_House=true)
    (po_House:PySem.W.plainOver K C_House=true)
    (sa_House:PySem.W.findIn K (.ref C_House) "__setattr__"=some (some (.builtin "object.__setattr__")))
    (mk_House:PySem.W.makesIn K C_House=true)
    (kc_House:PySem.W.keepIn K (.ref C_House)=true)
    (tc_House:PySem.W.findIn K (.ref C_House) "__class__"=some (some (.builtin "object.__class__")))
    (tm_House:PySem.W.mroIn K C_House (.type "object")=some true)
    (n_House_doors:PySem.W.findIn K (.ref C_House) "doors"=some none)
    (n_House_ways:PySem.W.findIn K (.ref C_House) "ways"=some none)
    (n_House_lamps:PySem.W.findIn K (.ref C_House) "lamps"=some none)
    (a_Book:PySem.W.nsIn K mainGlobals "Book"=some (some (.ref C_Book)))
    (pg_Book:PySem.W.plainGet K C_Book Str.empty=true)
    (hd_Book:PySem.W.hasDictIn K C_Book=true)
    (po_Book:PySem.W.plainOver K C_Book=true)
    (sa_Book:PySem.W.findIn K (.ref C_Book) "__setattr__"=some (some (.builtin "object.__setattr__")))
    (mk_Book:PySem.W.makesIn K C_Book=true)
    (kc_Book:PySem.W.keepIn K (.ref C_Book)=true)
    (tc_Book:PySem.W.findIn K (.ref C_Book) "__class__"=some (some (.builtin "object.__class__")))
    (tm_Book:PySem.W.mroIn K C_Book (.type "object")=some true)
    (n_Book_doors:PySem.W.findIn K (.ref C_Book) "doors"=some none)
    (n_Book_noted:PySem.W.findIn K (.ref C_Book) "noted"=some none)
    (a_Learner:PySem.W.nsIn K mainGlobals "Learner"=some (some (.ref C_Learner)))
    (pg_Learner:PySem.W.plainGet K C_Learner Str.empty=true)
    (hd_Learner:PySem.W.hasDictIn K C_Learner=true)
    (po_Learner:PySem.W.plainOver K C_Learner=true)
    (sa_Learner:PySem.W.findIn K (.ref C_Learner) "__setattr__"=some (some (.builtin "object.__setattr__")))
    (mk_Learner:PySem.W.makesIn K C_Learner=true)
    (kc_Learner:PySem.W.keepIn K (.ref C_Learner)=true)
    (tc_Learner:PySem.W.findIn K (.ref C_Learner) "__class__"=some (some (.builtin "object.__class__")))
    (tm_Learner:PySem.W.mroIn K C_Learner (.type "object")=some true)
    (n_Learner_book:PySem.W.findIn K (.ref C_Learner) "book"=some none)
    (n_Learner_doors:PySem.W.findIn K (.ref C_Learner) "doors"=some none)
    (n_Learner_heads:PySem.W.findIn K (.ref C_Learner) "heads"=some none)
    (n_Learner_tails:PySem.W.findIn K (.ref C_Learner) "tails"=some none)
    (n_Learner_lines:PySem.W.findIn K (.ref C_Learner) "lines"=some none)
    (n_Learner_rows:PySem.W.findIn K (.ref C_Learner) "rows"=some none)
    (n_Learner_filled:PySem.W.findIn K (.ref C_Learner) "filled"=some none)
    (a_BadWord:PySem.W.nsIn K mainGlobals "BadWord"=some (some (.ref C_BadWord)))
    (x_BadWord:PySem.W.excIn K C_BadWord bmV "ValueError.__new__"=true)
    (g1_BadWord:PySem.W.findIn K (.ref C_BadWord) "__getattribute__"=some (some (.builtin "BaseException.__getattribute__")))
    (g2_BadWord:PySem.W.findIn K (.ref C_BadWord) "__getattr__"=some none)
    (g3_BadWord:PySem.W.findIn K (.ref C_BadWord) "__class__"=some (some (.builtin "object.__class__")))
    (g4_BadWord:PySem.W.isClsIn K C_BadWord=true)
    (ty_BadWord:PySem.W.typeIn K (.ref C_BadWord)=some (.type "type"))
    (mv_BadWord:PySem.W.mroIn K C_BadWord (.type "ValueError")=some true)
    (ms_BadWord:PySem.W.mroIn K C_BadWord (.ref C_BadWord)=some true)
    (a_OtherDoors:PySem.W.nsIn K mainGlobals "OtherDoors"=some (some (.ref C_OtherDoors)))
    (x_OtherDoors:PySem.W.excIn K C_OtherDoors bmV "ValueError.__new__"=true)
    (g1_OtherDoors:PySem.W.findIn K (.ref C_OtherDoors) "__getattribute__"=some (some (.builtin "BaseException.__getattribute__")))
    (g2_OtherDoors:PySem.W.findIn K (.ref C_OtherDoors) "__getattr__"=some none)
    (g3_OtherDoors:PySem.W.findIn K (.ref C_OtherDoors) "__class__"=some (some (.builtin "object.__class__")))
    (g4_OtherDoors:PySem.W.isClsIn K C_OtherDoors=true)
    (ty_OtherDoors:PySem.W.typeIn K (.ref C_OtherDoors)=some (.type "type"))
    (mv_OtherDoors:PySem.W.mroIn K C_OtherDoors (.type "ValueError")=some true)
    (ms_OtherDoors:PySem.W.mroIn K C_OtherDoors (.ref C_OtherDoors)=some true)
    (a_SaidOtherwise:PySem.W.nsIn K mainGlobals "SaidOtherwise"=some (some (.ref C_SaidOtherwise)))
    (x_SaidOtherwise:PySem.W.excIn K C_SaidOtherwise bmV "ValueError.__new__"=true)
    (g1_SaidOtherwise:PySem.W.findIn K (.ref C_SaidOtherwise) "__getattribute__"=some (some (.builtin "BaseException.__getattribute__")))
    (g2_SaidOtherwise:PySem.W.findIn K (.ref C_SaidOtherwise) "__getattr__"=some none)
    (g3_SaidOtherwise:PySem.W.findIn K (.ref C_SaidOtherwise) "__class__"=some (some (.builtin "object.__class__")))
    (g4_SaidOtherwise:PySem.W.isClsIn K C_SaidOtherwise=true)
    (ty_SaidOtherwise:PySem.W.typeIn K (.ref C_SaidOtherwise)=some (.type "type"))
    (mv_SaidOtherwise:PySem.W.mroIn K C_SaidOtherwise (.type "ValueError")=some true)
    (ms_SaidOtherwise:PySem.W.mroIn K C_SaidOtherwise (.ref C_SaidOtherwise)=some true)
    (tg:PySem.W.specialIn K (.builtin "object.__class__") "__get__"=some (some (.builtin "getset_descriptor.__get__")))
    (tt:PySem.W.takesIn K (.builtin "object.__class__")=some true)
    (a0:PySem.W.nsIn K mainGlobals "check_doors"=some (some (.ref f0)))
    (l0:K.lookup f0=some ⟨oc0,od0,.func (PySem.W.fnOf "check_doors" "check_doors" (j9 Jy) (j8 Jy) (j2 Jy) .none kV0 dc0 pm0 an0 cd0 ct0),sl0⟩)
    (c0:PySem.W.codeIn K cd0 "check_doors"=true)
    (k0:PySem.W.keepIn K (.ref f0)=true)
    (a1:PySem.W.nsIn K mainGlobals "check_house"=some (some (.ref f1)))
    (l1:K.lookup f1=some ⟨oc1,od1,.func (PySem.W.fnOf "check_house" "check_house" (j9 JL) (j8 JL) (j2 JL) .none kV1 dc1 pm1 an1 cd1 ct1),sl1⟩)
    (c1:PySem.W.codeIn K cd1 "check_house"=true)
    (k1:PySem.W.keepIn K (.ref f1)=true)
    (a2:PySem.W.nsIn K mainGlobals "check_word"=some (some (.ref f2)))
    (l2:K.lookup f2=some ⟨oc2,od2,.func (PySem.W.fnOf "check_word" "check_word" (j9 Jg) (j8 Jg) (j2 Jg) .none kV2 dc2 pm2 an2 cd2 ct2),sl2⟩)
    (c2:PySem.W.codeIn K cd2 "check_word"=true)
    (k2:PySem.W.keepIn K (.ref f2)=true)
    (a3:PySem.W.findIn K (.ref C_House) "__init__"=some (some (.ref f3)))
    (i3:PySem.W.isFn K (.ref f3)=true)
    (l3:K.lookup f3=some ⟨oc3,od3,.func (PySem.W.fnOf "__init__" "House.__init__" (j9 kM) (j8 kM) (j2 kM) .none kV3 dc3 pm3 an3 cd3 ct3),sl3⟩)
    (c3:PySem.W.codeIn K cd3 "House.__init__"=true)
    (k3:PySem.W.keepIn K (.ref f3)=true)
    (a4:PySem.W.findIn K (.ref C_House) "rooms"=some (some (.ref f4)))
    (i4:PySem.W.isFn K (.ref f4)=true)
    (l4:K.lookup f4=some ⟨oc4,od4,.func (PySem.W.fnOf "rooms" "House.rooms" (j9 QJ) (j8 QJ) (j2 QJ) .none kV4 dc4 pm4 an4 cd4 ct4),sl4⟩)
    (c4:PySem.W.codeIn K cd4 "House.rooms"=true)
    (k4:PySem.W.keepIn K (.ref f4)=true)
    (a5:PySem.W.findIn K (.ref C_House) "trail"=some (some (.ref f5)))
    (i5:PySem.W.isFn K (.ref f5)=true)
    (l5:K.lookup f5=some ⟨oc5,od5,.func (PySem.W.fnOf "trail" "House.trail" (j9 Jp) (j8 Jp) (j2 Jp) .none kV5 dc5 pm5 an5 cd5 ct5),sl5⟩)
    (c5:PySem.W.codeIn K cd5 "House.trail"=true)
    (k5:PySem.W.keepIn K (.ref f5)=true)
    (a6:PySem.W.findIn K (.ref C_House) "room_of"=some (some (.ref f6)))
    (i6:PySem.W.isFn K (.ref f6)=true)
    (l6:K.lookup f6=some ⟨oc6,od6,.func (PySem.W.fnOf "room_of" "House.room_of" (j9 QO) (j8 QO) (j2 QO) .none kV6 dc6 pm6 an6 cd6 ct6),sl6⟩)
    (c6:PySem.W.codeIn K cd6 "House.room_of"=true)
    (k6:PySem.W.keepIn K (.ref f6)=true)
    (a7:PySem.W.findIn K (.ref C_House) "says"=some (some (.ref f7)))
    (i7:PySem.W.isFn K (.ref f7)=true)
    (l7:K.lookup f7=some ⟨oc7,od7,.func (PySem.W.fnOf "says" "House.says" (j9 QC) (j8 QC) (j2 QC) .none kV7 dc7 pm7 an7 cd7 ct7),sl7⟩)
    (c7:PySem.W.codeIn K cd7 "House.says"=true)
    (k7:PySem.W.keepIn K (.ref f7)=true)
    (a8:PySem.W.nsIn K mainGlobals "leader"=some (some (.ref f8)))
    (l8:K.lookup f8=some ⟨oc8,od8,.func (PySem.W.fnOf "leader" "leader" (j9 Ju) (j8 Ju) (j2 Ju) .none kV8 dc8 pm8 an8 cd8 ct8),sl8⟩)
    (c8:PySem.W.codeIn K cd8 "leader"=true)
    (k8:PySem.W.keepIn K (.ref f8)=true)
    (a9:PySem.W.nsIn K mainGlobals "newly_linked"=some (some (.ref f9)))
    (l9:K.lookup f9=some ⟨oc9,od9,.func (PySem.W.fnOf "newly_linked" "newly_linked" (j9 JY) (j8 JY) (j2 JY) .none kV9 dc9 pm9 an9 cd9 ct9),sl9⟩)
    (c9:PySem.W.codeIn K cd9 "newly_linked"=true)
    (k9:PySem.W.keepIn K (.ref f9)=true)
    (a10:PySem.W.nsIn K mainGlobals "pairs_behind"=some (some (.ref f10)))
    (l10:K.lookup f10=some ⟨oc10,od10,.func (PySem.W.fnOf "pairs_behind" "pairs_behind" (j9 JT) (j8 JT) (j2 JT) .none kV10 dc10 pm10 an10 cd10 ct10),sl10⟩)
    (c10:PySem.W.codeIn K cd10 "pairs_behind"=true)
    (k10:PySem.W.keepIn K (.ref f10)=true)
    (a11:PySem.W.nsIn K mainGlobals "parting_word"=some (some (.ref f11)))
    (l11:K.lookup f11=some ⟨oc11,od11,.func (PySem.W.fnOf "parting_word" "parting_word" (j9 JR) (j8 JR) (j2 JR) .none kV11 dc11 pm11 an11 cd11 ct11),sl11⟩)
    (c11:PySem.W.codeIn K cd11 "parting_word"=true)
    (k11:PySem.W.keepIn K (.ref f11)=true)
    (a12:PySem.W.nsIn K mainGlobals "check_same_doors"=some (some (.ref f12)))
    (l12:K.lookup f12=some ⟨oc12,od12,.func (PySem.W.fnOf "check_same_doors" "check_same_doors" (j9 Jd) (j8 Jd) (j2 Jd) .none kV12 dc12 pm12 an12 cd12 ct12),sl12⟩)
    (c12:PySem.W.codeIn K cd12 "check_same_doors"=true)
    (k12:PySem.W.keepIn K (.ref f12)=true)
    (a13:PySem.W.nsIn K mainGlobals "difference"=some (some (.ref f13)))
    (l13:K.lookup f13=some ⟨oc13,od13,.func (PySem.W.fnOf "difference" "difference" (j9 kP) (j8 kP) (j2 kP) .none kV13 dc13 pm13 an13 cd13 ct13),sl13⟩)
    (c13:PySem.W.codeIn K cd13 "difference"=true)
    (k13:PySem.W.keepIn K (.ref f13)=true)
    (a14:PySem.W.findIn K (.ref C_Book) "__init__"=some (some (.ref f14)))
    (i14:PySem.W.isFn K (.ref f14)=true)
    (l14:K.lookup f14=some ⟨oc14,od14,.func (PySem.W.fnOf "__init__" "Book.__init__" (j9 JO) (j8 JO) (j2 JO) .none kV14 dc14 pm14 an14 cd14 ct14),sl14⟩)
    (c14:PySem.W.codeIn K cd14 "Book.__init__"=true)
    (k14:PySem.W.keepIn K (.ref f14)=true)
    (a15:PySem.W.findIn K (.ref C_Book) "said"=some (some (.ref f15)))
    (i15:PySem.W.isFn K (.ref f15)=true)
    (l15:K.lookup f15=some ⟨oc15,od15,.func (PySem.W.fnOf "said" "Book.said" (j9 Jl) (j8 Jl) (j2 Jl) .none kV15 dc15 pm15 an15 cd15 ct15),sl15⟩)
    (c15:PySem.W.codeIn K cd15 "Book.said"=true)
    (k15:PySem.W.keepIn K (.ref f15)=true)
    (a16:PySem.W.findIn K (.ref C_Book) "check_note"=some (some (.ref f16)))
    (i16:PySem.W.isFn K (.ref f16)=true)
    (l16:K.lookup f16=some ⟨oc16,od16,.func (PySem.W.fnOf "check_note" "Book.check_note" (j9 Q4) (j8 Q4) (j2 Q4) .none kV16 dc16 pm16 an16 cd16 ct16),sl16⟩)
    (c16:PySem.W.codeIn K cd16 "Book.check_note"=true)
    (k16:PySem.W.keepIn K (.ref f16)=true)
    (a17:PySem.W.findIn K (.ref C_Book) "note"=some (some (.ref f17)))
    (i17:PySem.W.isFn K (.ref f17)=true)
    (l17:K.lookup f17=some ⟨oc17,od17,.func (PySem.W.fnOf "note" "Book.note" (j9 Q3) (j8 Q3) (j2 Q3) .none kV17 dc17 pm17 an17 cd17 ct17),sl17⟩)
    (c17:PySem.W.codeIn K cd17 "Book.note"=true)
    (k17:PySem.W.keepIn K (.ref f17)=true)
    (a18:PySem.W.findIn K (.ref C_Learner) "add_head"=some (some (.ref f18)))
    (i18:PySem.W.isFn K (.ref f18)=true)
    (l18:K.lookup f18=some ⟨oc18,od18,.func (PySem.W.fnOf "add_head" "Learner.add_head" (j9 JV) (j8 JV) (j2 JV) .none kV18 dc18 pm18 an18 cd18 ct18),sl18⟩)
    (c18:PySem.W.codeIn K cd18 "Learner.add_head"=true)
    (k18:PySem.W.keepIn K (.ref f18)=true)
    (a19:PySem.W.findIn K (.ref C_Learner) "__init__"=some (some (.ref f19)))
    (i19:PySem.W.isFn K (.ref f19)=true)
    (l19:K.lookup f19=some ⟨oc19,od19,.func (PySem.W.fnOf "__init__" "Learner.__init__" (j9 Jh) (j8 Jh) (j2 Jh) .none kV19 dc19 pm19 an19 cd19 ct19),sl19⟩)
    (c19:PySem.W.codeIn K cd19 "Learner.__init__"=true)
    (k19:PySem.W.keepIn K (.ref f19)=true)
    (a20:PySem.W.findIn K (.ref C_Learner) "gap"=some (some (.ref f20)))
    (i20:PySem.W.isFn K (.ref f20)=true)
    (l20:K.lookup f20=some ⟨oc20,od20,.func (PySem.W.fnOf "gap" "Learner.gap" (j9 Js) (j8 Js) (j2 Js) .none kV20 dc20 pm20 an20 cd20 ct20),sl20⟩)
    (c20:PySem.W.codeIn K cd20 "Learner.gap"=true)
    (k20:PySem.W.keepIn K (.ref f20)=true)
    (a21:PySem.W.findIn K (.ref C_Learner) "question"=some (some (.ref f21)))
    (i21:PySem.W.isFn K (.ref f21)=true)
    (l21:K.lookup f21=some ⟨oc21,od21,.func (PySem.W.fnOf "question" "Learner.question" (j9 Jj) (j8 Jj) (j2 Jj) .none kV21 dc21 pm21 an21 cd21 ct21),sl21⟩)
    (c21:PySem.W.codeIn K cd21 "Learner.question"=true)
    (k21:PySem.W.keepIn K (.ref f21)=true)
    (a22:PySem.W.findIn K (.ref C_Learner) "heads_by_row"=some (some (.ref f22)))
    (i22:PySem.W.isFn K (.ref f22)=true)
    (l22:K.lookup f22=some ⟨oc22,od22,.func (PySem.W.fnOf "heads_by_row" "Learner.heads_by_row" (j9 QD) (j8 QD) (j2 QD) .none kV22 dc22 pm22 an22 cd22 ct22),sl22⟩)
    (c22:PySem.W.codeIn K cd22 "Learner.heads_by_row"=true)
    (k22:PySem.W.keepIn K (.ref f22)=true)
    (a23:PySem.W.findIn K (.ref C_Learner) "unlike_edge"=some (some (.ref f23)))
    (i23:PySem.W.isFn K (.ref f23)=true)
    (l23:K.lookup f23=some ⟨oc23,od23,.func (PySem.W.fnOf "unlike_edge" "Learner.unlike_edge" (j9 JW) (j8 JW) (j2 JW) .none kV23 dc23 pm23 an23 cd23 ct23),sl23⟩)
    (c23:PySem.W.codeIn K cd23 "Learner.unlike_edge"=true)
    (k23:PySem.W.keepIn K (.ref f23)=true)
    (a24:PySem.W.findIn K (.ref C_Learner) "add_unlike_edges"=some (some (.ref f24)))
    (i24:PySem.W.isFn K (.ref f24)=true)
    (l24:K.lookup f24=some ⟨oc24,od24,.func (PySem.W.fnOf "add_unlike_edges" "Learner.add_unlike_edges" (j9 JI) (j8 JI) (j2 JI) .none kV24 dc24 pm24 an24 cd24 ct24),sl24⟩)
    (c24:PySem.W.codeIn K cd24 "Learner.add_unlike_edges"=true)
    (k24:PySem.W.keepIn K (.ref f24)=true)
    (a25:PySem.W.findIn K (.ref C_Learner) "answer"=some (some (.ref f25)))
    (i25:PySem.W.isFn K (.ref f25)=true)
    (l25:K.lookup f25=some ⟨oc25,od25,.func (PySem.W.fnOf "answer" "Learner.answer" (j9 Je) (j8 Je) (j2 Je) .none kV25 dc25 pm25 an25 cd25 ct25),sl25⟩)
    (c25:PySem.W.codeIn K cd25 "Learner.answer"=true)
    (k25:PySem.W.keepIn K (.ref f25)=true)
    (a26:PySem.W.findIn K (.ref C_Learner) "guess"=some (some (.ref f26)))
    (i26:PySem.W.isFn K (.ref f26)=true)
    (l26:K.lookup f26=some ⟨oc26,od26,.func (PySem.W.fnOf "guess" "Learner.guess" (j9 kD) (j8 kD) (j2 kD) .none kV26 dc26 pm26 an26 cd26 ct26),sl26⟩)
    (c26:PySem.W.codeIn K cd26 "Learner.guess"=true)
    (k26:PySem.W.keepIn K (.ref f26)=true)
    (a27:PySem.W.findIn K (.ref C_Learner) "add_tails"=some (some (.ref f27)))
    (i27:PySem.W.isFn K (.ref f27)=true)
    (l27:K.lookup f27=some ⟨oc27,od27,.func (PySem.W.fnOf "add_tails" "Learner.add_tails" (j9 Jm) (j8 Jm) (j2 Jm) .none kV27 dc27 pm27 an27 cd27 ct27),sl27⟩)
    (c27:PySem.W.codeIn K cd27 "Learner.add_tails"=true)
    (k27:PySem.W.keepIn K (.ref f27)=true)
    (a28:PySem.W.findIn K (.ref C_Learner) "wrong"=some (some (.ref f28)))
    (i28:PySem.W.isFn K (.ref f28)=true)
    (l28:K.lookup f28=some ⟨oc28,od28,.func (PySem.W.fnOf "wrong" "Learner.wrong" (j9 QA) (j8 QA) (j2 QA) .none kV28 dc28 pm28 an28 cd28 ct28),sl28⟩)
    (c28:PySem.W.codeIn K cd28 "Learner.wrong"=true)
    (k28:PySem.W.keepIn K (.ref f28)=true)
    (a29:PySem.W.nsIn K mainGlobals "answer_all"=some (some (.ref f29)))
    (l29:K.lookup f29=some ⟨oc29,od29,.func (PySem.W.fnOf "answer_all" "answer_all" (j9 Q9) (j8 Q9) (j2 Q9) .none kV29 dc29 pm29 an29 cd29 ct29),sl29⟩)
    (c29:PySem.W.codeIn K cd29 "answer_all"=true)
    (k29:PySem.W.keepIn K (.ref f29)=true)
    (a30:PySem.W.nsIn K mainGlobals "lesson"=some (some (.ref f30)))
    (l30:K.lookup f30=some ⟨oc30,od30,.func (PySem.W.fnOf "lesson" "lesson" (j9 QP) (j8 QP) (j2 QP) .none kV30 dc30 pm30 an30 cd30 ct30),sl30⟩)
    (c30:PySem.W.codeIn K cd30 "lesson"=true)
    (k30:PySem.W.keepIn K (.ref f30)=true)
    (a31:PySem.W.nsIn K mainGlobals "_law_cell_at"=some (some (.ref f31)))
    (l31:K.lookup f31=some ⟨oc31,od31,.func (PySem.W.fnOf "_law_cell_at" "_law_cell_at" (j9 Jb) (j8 Jb) (j2 Jb) .none kV31 dc31 pm31 an31 cd31 ct31),sl31⟩)
    (c31:PySem.W.codeIn K cd31 "_law_cell_at"=true)
    (k31:PySem.W.keepIn K (.ref f31)=true)
    (a32:PySem.W.nsIn K mainGlobals "_law_draw"=some (some (.ref f32)))
    (l32:K.lookup f32=some ⟨oc32,od32,.func (PySem.W.fnOf "_law_draw" "_law_draw" (j9 Ji) (j8 Ji) (j2 Ji) .none kV32 dc32 pm32 an32 cd32 ct32),sl32⟩)
    (c32:PySem.W.codeIn K cd32 "_law_draw"=true)
    (k32:PySem.W.keepIn K (.ref f32)=true)
    (a33:PySem.W.nsIn K mainGlobals "_law_ways_by"=some (some (.ref f33)))
    (l33:K.lookup f33=some ⟨oc33,od33,.func (PySem.W.fnOf "_law_ways_by" "_law_ways_by" (j9 kS) (j8 kS) (j2 kS) .none kV33 dc33 pm33 an33 cd33 ct33),sl33⟩)
    (c33:PySem.W.codeIn K cd33 "_law_ways_by"=true)
    (k33:PySem.W.keepIn K (.ref f33)=true)
    (a34:PySem.W.nsIn K mainGlobals "_law_lamps_by"=some (some (.ref f34)))
    (l34:K.lookup f34=some ⟨oc34,od34,.func (PySem.W.fnOf "_law_lamps_by" "_law_lamps_by" (j9 kL) (j8 kL) (j2 kL) .none kV34 dc34 pm34 an34 cd34 ct34),sl34⟩)
    (c34:PySem.W.codeIn K cd34 "_law_lamps_by"=true)
    (k34:PySem.W.keepIn K (.ref f34)=true)
    (a35:PySem.W.nsIn K mainGlobals "_law_walk"=some (some (.ref f35)))
    (l35:K.lookup f35=some ⟨oc35,od35,.func (PySem.W.fnOf "_law_walk" "_law_walk" (j9 Jc) (j8 Jc) (j2 Jc) .none kV35 dc35 pm35 an35 cd35 ct35),sl35⟩)
    (c35:PySem.W.codeIn K cd35 "_law_walk"=true)
    (k35:PySem.W.keepIn K (.ref f35)=true)
    (a36:PySem.W.nsIn K mainGlobals "_law_whole"=some (some (.ref f36)))
    (l36:K.lookup f36=some ⟨oc36,od36,.func (PySem.W.fnOf "_law_whole" "_law_whole" (j9 Q1) (j8 Q1) (j2 Q1) .none kV36 dc36 pm36 an36 cd36 ct36),sl36⟩)
    (c36:PySem.W.codeIn K cd36 "_law_whole"=true)
    (k36:PySem.W.keepIn K (.ref f36)=true)
    (a37:PySem.W.nsIn K mainGlobals "_law_numbers"=some (some (.ref f37)))
    (l37:K.lookup f37=some ⟨oc37,od37,.func (PySem.W.fnOf "_law_numbers" "_law_numbers" (j9 QG) (j8 QG) (j2 QG) .none kV37 dc37 pm37 an37 cd37 ct37),sl37⟩)
    (c37:PySem.W.codeIn K cd37 "_law_numbers"=true)
    (k37:PySem.W.keepIn K (.ref f37)=true)
    (a38:PySem.W.nsIn K mainGlobals "_law_truths"=some (some (.ref f38)))
    (l38:K.lookup f38=some ⟨oc38,od38,.func (PySem.W.fnOf "_law_truths" "_law_truths" (j9 Q5) (j8 Q5) (j2 Q5) .none kV38 dc38 pm38 an38 cd38 ct38),sl38⟩)
    (c38:PySem.W.codeIn K cd38 "_law_truths"=true)
    (k38:PySem.W.keepIn K (.ref f38)=true)
    (a39:PySem.W.nsIn K mainGlobals "_law_house_is"=some (some (.ref f39)))
    (l39:K.lookup f39=some ⟨oc39,od39,.func (PySem.W.fnOf "_law_house_is" "_law_house_is" (j9 Q8) (j8 Q8) (j2 Q8) .none kV39 dc39 pm39 an39 cd39 ct39),sl39⟩)
    (c39:PySem.W.codeIn K cd39 "_law_house_is"=true)
    (k39:PySem.W.keepIn K (.ref f39)=true)
    (a40:PySem.W.nsIn K mainGlobals "_law_words_are"=some (some (.ref f40)))
    (l40:K.lookup f40=some ⟨oc40,od40,.func (PySem.W.fnOf "_law_words_are" "_law_words_are" (j9 Q0) (j8 Q0) (j2 Q0) .none kV40 dc40 pm40 an40 cd40 ct40),sl40⟩)
    (c40:PySem.W.codeIn K cd40 "_law_words_are"=true)
    (k40:PySem.W.keepIn K (.ref f40)=true)
    (a41:PySem.W.nsIn K mainGlobals "_law_part"=some (some (.ref f41)))
    (l41:K.lookup f41=some ⟨oc41,od41,.func (PySem.W.fnOf "_law_part" "_law_part" (j9 QH) (j8 QH) (j2 QH) .none kV41 dc41 pm41 an41 cd41 ct41),sl41⟩)
    (c41:PySem.W.codeIn K cd41 "_law_part"=true)
    (k41:PySem.W.keepIn K (.ref f41)=true)
    (a42:PySem.W.nsIn K mainGlobals "_law_least_words"=some (some (.ref f42)))
    (l42:K.lookup f42=some ⟨oc42,od42,.func (PySem.W.fnOf "_law_least_words" "_law_least_words" (j9 Q6) (j8 Q6) (j2 Q6) .none kV42 dc42 pm42 an42 cd42 ct42),sl42⟩)
    (c42:PySem.W.codeIn K cd42 "_law_least_words"=true)
    (k42:PySem.W.keepIn K (.ref f42)=true)
    (a43:PySem.W.nsIn K mainGlobals "_law_kinds"=some (some (.ref f43)))
    (l43:K.lookup f43=some ⟨oc43,od43,.func (PySem.W.fnOf "_law_kinds" "_law_kinds" (j9 kO) (j8 kO) (j2 kO) .none kV43 dc43 pm43 an43 cd43 ct43),sl43⟩)
    (c43:PySem.W.codeIn K cd43 "_law_kinds"=true)
    (k43:PySem.W.keepIn K (.ref f43)=true)
    (a44:PySem.W.nsIn K mainGlobals "_law_next"=some (some (.ref f44)))
    (l44:K.lookup f44=some ⟨oc44,od44,.func (PySem.W.fnOf "_law_next" "_law_next" (j9 kN) (j8 kN) (j2 kN) .none kV44 dc44 pm44 an44 cd44 ct44),sl44⟩)
    (c44:PySem.W.codeIn K cd44 "_law_next"=true)
    (k44:PySem.W.keepIn K (.ref f44)=true)
    (a45:PySem.W.nsIn K mainGlobals "_law_row"=some (some (.ref f45)))
    (l45:K.lookup f45=some ⟨oc45,od45,.func (PySem.W.fnOf "_law_row" "_law_row" (j9 kH) (j8 kH) (j2 kH) .none kV45 dc45 pm45 an45 cd45 ct45),sl45⟩)
    (c45:PySem.W.codeIn K cd45 "_law_row"=true)
    (k45:PySem.W.keepIn K (.ref f45)=true)
    (a46:PySem.W.nsIn K mainGlobals "_law_grown"=some (some (.ref f46)))
    (l46:K.lookup f46=some ⟨oc46,od46,.func (PySem.W.fnOf "_law_grown" "_law_grown" (j9 kI) (j8 kI) (j2 kI) .none kV46 dc46 pm46 an46 cd46 ct46),sl46⟩)
    (c46:PySem.W.codeIn K cd46 "_law_grown"=true)
    (k46:PySem.W.keepIn K (.ref f46)=true)
    (a47:PySem.W.nsIn K mainGlobals "_law_guessed"=some (some (.ref f47)))
    (l47:K.lookup f47=some ⟨oc47,od47,.func (PySem.W.fnOf "_law_guessed" "_law_guessed" (j9 xA) (j8 xA) (j2 xA) .none kV47 dc47 pm47 an47 cd47 ct47),sl47⟩)
    (c47:PySem.W.codeIn K cd47 "_law_guessed"=true)
    (k47:PySem.W.keepIn K (.ref f47)=true)
    (a48:PySem.W.nsIn K mainGlobals "_law_ends"=some (some (.ref f48)))
    (l48:K.lookup f48=some ⟨oc48,od48,.func (PySem.W.fnOf "_law_ends" "_law_ends" (j9 QE) (j8 QE) (j2 QE) .none kV48 dc48 pm48 an48 cd48 ct48),sl48⟩)
    (c48:PySem.W.codeIn K cd48 "_law_ends"=true)
    (k48:PySem.W.keepIn K (.ref f48)=true)
    (a49:PySem.W.nsIn K mainGlobals "law"=some (some (.ref f49)))
    (l49:K.lookup f49=some ⟨oc49,od49,.func (PySem.W.fnOf "law" "law" (j9 vQ) (j8 vQ) (j2 vQ) .none kV49 dc49 pm49 an49 cd49 ct49),sl49⟩)
    (c49:PySem.W.codeIn K cd49 "law"=true)
    (k49:PySem.W.keepIn K (.ref f49)=true)
   :∃ t,Txt K mg t :=
  ⟨{ C_House:=C_House,C_Book:=C_Book,C_Learner:=C_Learner,C_BadWord:=C_BadWord,C_OtherDoors:=C_OtherDoors,C_SaidOtherwise:=C_SaidOtherwise,f_zR:=f0,fd_zR:=PySem.W.fnOf "check_doors" "check_doors" (j9 Jy) (j8 Jy) (j2 Jy) .none kV0 dc0 pm0 an0 cd0 ct0,f_zS:=f1,fd_zS:=PySem.W.fnOf "check_house" "check_house" (j9 JL) (j8 JL) (j2 JL) .none kV1 dc1 pm1 an1 cd1 ct1,f_zX:=f2,fd_zX:=PySem.W.fnOf "check_word" "check_word" (j9 Jg) (j8 Jg) (j2 Jg) .none kV2 dc2 pm2 an2 cd2 ct2,f_zY:=f3,fd_zY:=PySem.W.fnOf "__init__" "House.__init__" (j9 kM) (j8 kM) (j2 kM) .none kV3 dc3 pm3 an3 cd3 ct3,f_zT:=f4,fd_zT:=PySem.W.fnOf "rooms" "House.rooms" (j9 QJ) (j8 QJ) (j2 QJ) .none kV4 dc4 pm4 an4 cd4 ct4,f_zU:=f5,fd_zU:=PySem.W.fnOf "trail" "House.trail" (j9 Jp) (j8 Jp) (j2 Jp) .none kV5 dc5 pm5 an5 cd5 ct5,f_zJ:=f6,fd_zJ:=PySem.W.fnOf "room_of" "House.room_of" (j9 QO) (j8 QO) (j2 QO) .none kV6 dc6 pm6 an6 cd6 ct6,f_zZ:=f7,fd_zZ:=PySem.W.fnOf "says" "House.says" (j9 QC) (j8 QC) (j2 QC) .none kV7 dc7 pm7 an7 cd7 ct7,f_zp:=f8,fd_zp:=PySem.W.fnOf "leader" "leader" (j9 Ju) (j8 Ju) (j2 Ju) .none kV8 dc8 pm8 an8 cd8 ct8,f_zN:=f9,fd_zN:=PySem.W.fnOf "newly_linked" "newly_linked" (j9 JY) (j8 JY) (j2 JY) .none kV9 dc9 pm9 an9 cd9 ct9,f_zO:=f10,fd_zO:=PySem.W.fnOf "pairs_behind" "pairs_behind" (j9 JT) (j8 JT) (j2 JT) .none kV10 dc10 pm10 an10 cd10 ct10,f_zP:=f11,fd_zP:=PySem.W.fnOf "parting_word" "parting_word" (j9 JR) (j8 JR) (j2 JR) .none kV11 dc11 pm11 an11 cd11 ct11,f_zE:=f12,fd_zE:=PySem.W.fnOf "check_same_doors" "check_same_doors" (j9 Jd) (j8 Jd) (j2 Jd) .none kV12 dc12 pm12 an12 cd12 ct12,f_za:=f13,fd_za:=PySem.W.fnOf "difference" "difference" (j9 kP) (j8 kP) (j2 kP) .none kV13 dc13 pm13 an13 cd13 ct13,f_ze:=f14,fd_ze:=PySem.W.fnOf "__init__" "Book.__init__" (j9 JO) (j8 JO) (j2 JO) .none kV14 dc14 pm14 an14 cd14 ct14,f_zf:=f15,fd_zf:=PySem.W.fnOf "said" "Book.said" (j9 Jl) (j8 Jl) (j2 Jl) .none kV15 dc15 pm15 an15 cd15 ct15,f_zH:=f16,fd_zH:=PySem.W.fnOf "check_note" "Book.check_note" (j9 Q4) (j8 Q4) (j2 Q4) .none kV16 dc16 pm16 an16 cd16 ct16,f_zg:=f17,fd_zg:=PySem.W.fnOf "note" "Book.note" (j9 Q3) (j8 Q3) (j2 Q3) .none kV17 dc17 pm17 an17 cd17 ct17,f_zF:=f18,fd_zF:=PySem.W.fnOf "add_head" "Learner.add_head" (j9 JV) (j8 JV) (j2 JV) .none kV18 dc18 pm18 an18 cd18 ct18,f_zQ:=f19,fd_zQ:=PySem.W.fnOf "__init__" "Learner.__init__" (j9 Jh) (j8 Jh) (j2 Jh) .none kV19 dc19 pm19 an19 cd19 ct19,f_zV:=f20,fd_zV:=PySem.W.fnOf "gap" "Learner.gap" (j9 Js) (j8 Js) (j2 Js) .none kV20 dc20 pm20 an20 cd20 ct20,f_zG:=f21,fd_zG:=PySem.W.fnOf "question" "Learner.question" (j9 Jj) (j8 Jj) (j2 Jj) .none kV21 dc21 pm21 an21 cd21 ct21,f_zB:=f22,fd_zB:=PySem.W.fnOf "heads_by_row" "Learner.heads_by_row" (j9 QD) (j8 QD) (j2 QD) .none kV22 dc22 pm22 an22 cd22 ct22,f_zC:=f23,fd_zC:=PySem.W.fnOf "unlike_edge" "Learner.unlike_edge" (j9 JW) (j8 JW) (j2 JW) .none kV23 dc23 pm23 an23 cd23 ct23,f_zA:=f24,fd_zA:=PySem.W.fnOf "add_unlike_edges" "Learner.add_unlike_edges" (j9 JI) (j8 JI) (j2 JI) .none kV24 dc24 pm24 an24 cd24 ct24,f_zI:=f25,fd_zI:=PySem.W.fnOf "answer" "Learner.answer" (j9 Je) (j8 Je) (j2 Je) .none kV25 dc25 pm25 an25 cd25 ct25,f_zK:=f26,fd_zK:=PySem.W.fnOf "guess" "Learner.guess" (j9 kD) (j8 kD) (j2 kD) .none kV26 dc26 pm26 an26 cd26 ct26,f_zD:=f27,fd_zD:=PySem.W.fnOf "add_tails" "Learner.add_tails" (j9 Jm) (j8 Jm) (j2 Jm) .none kV27 dc27 pm27 an27 cd27 ct27,f_zL:=f28,fd_zL:=PySem.W.fnOf "wrong" "Learner.wrong" (j9 QA) (j8 QA) (j2 QA) .none kV28 dc28 pm28 an28 cd28 ct28,f_zb:=f29,fd_zb:=PySem.W.fnOf "answer_all" "answer_all" (j9 Q9) (j8 Q9) (j2 Q9) .none kV29 dc29 pm29 an29 cd29 ct29,f_zq:=f30,fd_zq:=PySem.W.fnOf "lesson" "lesson" (j9 QP) (j8 QP) (j2 QP) .none kV30 dc30 pm30 an30 cd30 ct30,f_zh:=f31,fd_zh:=PySem.W.fnOf "_law_cell_at" "_law_cell_at" (j9 Jb) (j8 Jb) (j2 Jb) .none kV31 dc31 pm31 an31 cd31 ct31,f_zr:=f32,fd_zr:=PySem.W.fnOf "_law_draw" "_law_draw" (j9 Ji) (j8 Ji) (j2 Ji) .none kV32 dc32 pm32 an32 cd32 ct32,f_zi:=f33,fd_zi:=PySem.W.fnOf "_law_ways_by" "_law_ways_by" (j9 kS) (j8 kS) (j2 kS) .none kV33 dc33 pm33 an33 cd33 ct33,f_zc:=f34,fd_zc:=PySem.W.fnOf "_law_lamps_by" "_law_lamps_by" (j9 kL) (j8 kL) (j2 kL) .none kV34 dc34 pm34 an34 cd34 ct34,f_zs:=f35,fd_zs:=PySem.W.fnOf "_law_walk" "_law_walk" (j9 Jc) (j8 Jc) (j2 Jc) .none kV35 dc35 pm35 an35 cd35 ct35,f_zm:=f36,fd_zm:=PySem.W.fnOf "_law_whole" "_law_whole" (j9 Q1) (j8 Q1) (j2 Q1) .none kV36 dc36 pm36 an36 cd36 ct36,f_zj:=f37,fd_zj:=PySem.W.fnOf "_law_numbers" "_law_numbers" (j9 QG) (j8 QG) (j2 QG) .none kV37 dc37 pm37 an37 cd37 ct37,f_zl:=f38,fd_zl:=PySem.W.fnOf "_law_truths" "_law_truths" (j9 Q5) (j8 Q5) (j2 Q5) .none kV38 dc38 pm38 an38 cd38 ct38,f_zd:=f39,fd_zd:=PySem.W.fnOf "_law_house_is" "_law_house_is" (j9 Q8) (j8 Q8) (j2 Q8) .none kV39 dc39 pm39 an39 cd39 ct39,f_zW:=f40,fd_zW:=PySem.W.fnOf "_law_words_are" "_law_words_are" (j9 Q0) (j8 Q0) (j2 Q0) .none kV40 dc40 pm40 an40 cd40 ct40,f_zt:=f41,fd_zt:=PySem.W.fnOf "_law_part" "_law_part" (j9 QH) (j8 QH) (j2 QH) .none kV41 dc41 pm41 an41 cd41 ct41,f_zM:=f42,fd_zM:=PySem.W.fnOf "_law_least_words" "_law_least_words" (j9 Q6) (j8 Q6) (j2 Q6) .none kV42 dc42 pm42 an42 cd42 ct42,f_zn:=f43,fd_zn:=PySem.W.fnOf "_law_kinds" "_law_kinds" (j9 kO) (j8 kO) (j2 kO) .none kV43 dc43 pm43 an43 cd43 ct43,f_zu:=f44,fd_zu:=PySem.W.fnOf "_law_next" "_law_next" (j9 kN) (j8 kN) (j2 kN) .none kV44 dc44 pm44 an44 cd44 ct44,f_zw:=f45,fd_zw:=PySem.W.fnOf "_law_row" "_law_row" (j9 kH) (j8 kH) (j2 kH) .none kV45 dc45 pm45 an45 cd45 ct45,f_zo:=f46,fd_zo:=PySem.W.fnOf "_law_grown" "_law_grown" (j9 kI) (j8 kI) (j2 kI) .none kV46 dc46 pm46 an46 cd46 ct46,f_zk:=f47,fd_zk:=PySem.W.fnOf "_law_guessed" "_law_guessed" (j9 xA) (j8 xA) (j2 xA) .none kV47 dc47 pm47 an47 cd47 ct47,f_zv:=f48,fd_zv:=PySem.W.fnOf "_law_ends" "_law_ends" (j9 QE) (j8 QE) (j2 QE) .none kV48 dc48 pm48 an48 cd48 ct48,f_law:=f49,fd_law:=PySem.W.fnOf "law" "law" (j9 vQ) (j8 vQ) (j2 vQ) .none kV49 dc49 pm49 an49 cd49 ct49 },
   ⟨PySem.W.mg_none_of X G z_len,PySem.W.mg_none_of X G z_range,PySem.W.mg_none_of X G z_isinstance,PySem.W.mg_none_of X G z_list,PySem.W.mg_none_of X G z_int,PySem.W.mg_none_of X G z_bool,PySem.W.mg_none_of X G z_enumerate,PySem.W.mg_none_of X G z_tuple,PySem.W.mg_none_of X G z_ValueError,PySem.W.mg_none_of X G z_zip,⟨_,PySem.W.mg_of X G c_MOST_DOORS⟩,⟨_,PySem.W.mg_of X G c_MOST_ROOMS⟩,PySem.W.mg_of X G a_House,⟨pg_House,hd_House,po_House,sa_House⟩,tc_House,tm_House,n_House_doors,n_House_ways,n_House_lamps,PySem.W.mg_of X G a_Book,⟨pg_Book,hd_Book,po_Book,sa_Book⟩,tc_Book,tm_Book,n_Book_doors,n_Book_noted,PySem.W.mg_of X G a_Learner,⟨pg_Learner,hd_Learner,po_Learner,sa_Learner⟩,tc_Learner,tm_Learner,n_Learner_book,n_Learner_doors,n_Learner_heads,n_Learner_tails,n_Learner_lines,n_Learner_rows,n_Learner_filled,PySem.W.mg_of X G a_BadWord,⟨⟨a_BadWord,x_BadWord⟩,g1_BadWord,g2_BadWord,g3_BadWord,g4_BadWord⟩,g4_BadWord,ty_BadWord,mv_BadWord,ms_BadWord,PySem.W.mg_of X G a_OtherDoors,⟨⟨a_OtherDoors,x_OtherDoors⟩,g1_OtherDoors,g2_OtherDoors,g3_OtherDoors,g4_OtherDoors⟩,g4_OtherDoors,ty_OtherDoors,mv_OtherDoors,ms_OtherDoors,PySem.W.mg_of X G a_SaidOtherwise,⟨⟨a_SaidOtherwise,x_SaidOtherwise⟩,g1_SaidOtherwise,g2_SaidOtherwise,g3_SaidOtherwise,g4_SaidOtherwise⟩,g4_SaidOtherwise,ty_SaidOtherwise,mv_SaidOtherwise,ms_SaidOtherwise,tg,tt,PySem.W.mg_of X G a0,jV (st:=Jy) l0 c0 k0,PySem.W.mg_of X G a1,jV (st:=JL) l1 c1 k1,PySem.W.mg_of X G a2,jV (st:=Jg) l2 c2 k2,jV (st:=kM) l3 c3 k3,⟨mk_House,a3,i3,kc_House⟩,jV (st:=QJ) l4 c4 k4,⟨a4,i4,k4⟩,jV (st:=Jp) l5 c5 k5,⟨a5,i5,k5⟩,jV (st:=QO) l6 c6 k6,⟨a6,i6,k6⟩,jV (st:=QC) l7 c7 k7,⟨a7,i7,k7⟩,PySem.W.mg_of X G a8,jV (st:=Ju) l8 c8 k8,PySem.W.mg_of X G a9,jV (st:=JY) l9 c9 k9,PySem.W.mg_of X G a10,jV (st:=JT) l10 c10 k10,PySem.W.mg_of X G a11,jV (st:=JR) l11 c11 k11,PySem.W.mg_of X G a12,jV (st:=Jd) l12 c12 k12,PySem.W.mg_of X G a13,jV (st:=kP) l13 c13 k13,jV (st:=JO) l14 c14 k14,⟨mk_Book,a14,i14,kc_Book⟩,jV (st:=Jl) l15 c15 k15,⟨a15,i15,k15⟩,jV (st:=Q4) l16 c16 k16,⟨a16,i16,k16⟩,jV (st:=Q3) l17 c17 k17,⟨a17,i17,k17⟩,jV (st:=JV) l18 c18 k18,⟨a18,i18,k18⟩,jV (st:=Jh) l19 c19 k19,⟨mk_Learner,a19,i19,kc_Learner⟩,jV (st:=Js) l20 c20 k20,⟨a20,i20,k20⟩,jV (st:=Jj) l21 c21 k21,⟨a21,i21,k21⟩,jV (st:=QD) l22 c22 k22,⟨a22,i22,k22⟩,jV (st:=JW) l23 c23 k23,⟨a23,i23,k23⟩,jV (st:=JI) l24 c24 k24,⟨a24,i24,k24⟩,jV (st:=Je) l25 c25 k25,⟨a25,i25,k25⟩,jV (st:=kD) l26 c26 k26,⟨a26,i26,k26⟩,jV (st:=Jm) l27 c27 k27,⟨a27,i27,k27⟩,jV (st:=QA) l28 c28 k28,⟨a28,i28,k28⟩,PySem.W.mg_of X G a29,jV (st:=Q9) l29 c29 k29,PySem.W.mg_of X G a30,jV (st:=QP) l30 c30 k30,PySem.W.mg_of X G a31,jV (st:=Jb) l31 c31 k31,PySem.W.mg_of X G a32,jV (st:=Ji) l32 c32 k32,PySem.W.mg_of X G a33,jV (st:=kS) l33 c33 k33,PySem.W.mg_of X G a34,jV (st:=kL) l34 c34 k34,PySem.W.mg_of X G a35,jV (st:=Jc) l35 c35 k35,PySem.W.mg_of X G a36,jV (st:=Q1) l36 c36 k36,PySem.W.mg_of X G a37,jV (st:=QG) l37 c37 k37,PySem.W.mg_of X G a38,jV (st:=Q5) l38 c38 k38,PySem.W.mg_of X G a39,jV (st:=Q8) l39 c39 k39,PySem.W.mg_of X G a40,jV (st:=Q0) l40 c40 k40,PySem.W.mg_of X G a41,jV (st:=QH) l41 c41 k41,PySem.W.mg_of X G a42,jV (st:=Q6) l42 c42 k42,PySem.W.mg_of X G a43,jV (st:=kO) l43 c43 k43,PySem.W.mg_of X G a44,jV (st:=kN) l44 c44 k44,PySem.W.mg_of X G a45,jV (st:=kH) l45 c45 k45,PySem.W.mg_of X G a46,jV (st:=kI) l46 c46 k46,PySem.W.mg_of X G a47,jV (st:=xA) l47 c47 k47,PySem.W.mg_of X G a48,jV (st:=QE) l48 c48 k48,PySem.W.mg_of X G a49,jV (st:=vQ) l49 c49 k49⟩⟩
end My
open PySem PySem.W PyProof.Rows
def _root_.PySem.W.Fast.tw1896053123808077006:Unit:=()
def _root_.PySem.W.Fast.tw8638184121137486634:Unit:=()
def _root_.PySem.W.Fast.tw7444131998384886874:Unit:=()
def _root_.PySem.W.Fast.tw148420067430043511:Unit:=()
def _root_.PySem.W.Fast.tw17524384912337591502:Unit:=()
def _root_.PySem.W.Fast.tw440251438947944398:Unit:=()
def _root_.PySem.W.Fast.tw10690477181923974849:Unit:=()
def _root_.PySem.W.Fast.tw16134969022958264424:Unit:=()
def _root_.PySem.W.Fast.tw9493967194555514177:Unit:=()
def _root_.PySem.W.Fast.tw10486290368301754470:Unit:=()
def _root_.PySem.W.Fast.tw17410593432390029361:Unit:=()
def _root_.PySem.W.Fast.tw5400288886272429038:Unit:=()
def _root_.PySem.W.Fast.tw6305750797608918566:Unit:=()
def _root_.PySem.W.Fast.tw17941105958267961385:Unit:=()
def _root_.PySem.W.Fast.tw15130068966301415742:Unit:=()
def _root_.PySem.W.Fast.tw15807359708142954965:Unit:=()
def _root_.PySem.W.Fast.tw2853991973777051434:Unit:=()
def _root_.PySem.W.Fast.tw1440989274024579560:Unit:=()
def _root_.PySem.W.Fast.tw17003901755369231446:Unit:=()
def _root_.PySem.W.Fast.tw6321459720568796875:Unit:=()
def _root_.PySem.W.Fast.tw7698103207578058879:Unit:=()
def _root_.PySem.W.Fast.tw11896173563978098125:Unit:=()
def _root_.PySem.W.Fast.tw17341138641640963159:Unit:=()
def _root_.PySem.W.Fast.tw10297384094159058134:Unit:=()
def _root_.PySem.W.Fast.tw7778189492286047891:Unit:=()
def _root_.PySem.W.Fast.tw14091473100094795248:Unit:=()
def _root_.PySem.W.Fast.tw17670423525975887472:Unit:=()
def _root_.PySem.W.Fast.tw4390530545151695127:Unit:=()
def _root_.PySem.W.Fast.tw14401533283558497681:Unit:=()
def _root_.PySem.W.Fast.tw8387144780876249896:Unit:=()
def _root_.PySem.W.Fast.tw11484816135504167290:Unit:=()
def _root_.PySem.W.Fast.tw8613786867642966733:Unit:=()
def _root_.PySem.W.Fast.tw15233384918233193299:Unit:=()
def _root_.PySem.W.Fast.tw3032356557177932484:Unit:=()
def _root_.PySem.W.Fast.tw18344534038346348101:Unit:=()
def _root_.PySem.W.Fast.tw3431300400665349231:Unit:=()
def _root_.PySem.W.Fast.tw4277102211004452463:Unit:=()
def _root_.PySem.W.Fast.tw15158942562988915804:Unit:=()
def _root_.PySem.W.Fast.tw1701702984091181889:Unit:=()
def _root_.PySem.W.Fast.tw7094208682034426683:Unit:=()
def _root_.PySem.W.Fast.tw2994727165231104447:Unit:=()
def _root_.PySem.W.Fast.tw8800720515182406821:Unit:=()
def _root_.PySem.W.Fast.tw6736354074541605437:Unit:=()
def _root_.PySem.W.Fast.tw16765023184710774883:Unit:=()
def _root_.PySem.W.Fast.tw2835236180937411173:Unit:=()
def _root_.PySem.W.Fast.tw12251664604504707334:Unit:=()
def _root_.PySem.W.Fast.tw10701748057638802923:Unit:=()
def _root_.PySem.W.Fast.tw11804614391102816242:Unit:=()
def _root_.PySem.W.Fast.tw2013219488721865783:Unit:=()
def _root_.PySem.W.Fast.tw16008372412240443497:Unit:=()
def _root_.PySem.W.Fast.tw7463203147963949553:Unit:=()
def _root_.PySem.W.Fast.tw15907810113657029415:Unit:=()
def _root_.PySem.W.Fast.tw11994041363842165112:Unit:=()
def _root_.PySem.W.Fast.tw9992664495155179022:Unit:=()
def _root_.PySem.W.Fast.tw16507165808382487425:Unit:=()
def _root_.PySem.W.Fast.tw17500334812340991042:Unit:=()
def _root_.PySem.W.Fast.tw10863572247840814417:Unit:=()
def _root_.PySem.W.Fast.tw5292123067619212210:Unit:=()
def _root_.PySem.W.Fast.tw1303571753054916534:Unit:=()
def _root_.PySem.W.Fast.tw6950841709474881321:Unit:=()
def _root_.PySem.W.Fast.tw1147416749598751328:Unit:=()
def _root_.PySem.W.Fast.tw14522293108209541342:Unit:=()
def _root_.PySem.W.Fast.tw935598422877623034:Unit:=()
def _root_.PySem.W.Fast.tw8439450948699279533:Unit:=()
def _root_.PySem.W.Fast.tw12530856902661990115:Unit:=()
def _root_.PySem.W.Fast.tw7748722738743600570:Unit:=()
def _root_.PySem.W.Fast.tw4441420313350259586:Unit:=()
def _root_.PySem.W.Fast.tw11939619419747646173:Unit:=()
def _root_.PySem.W.Fast.tw17083303851963048636:Unit:=()
def _root_.PySem.W.Fast.tw15698290840486859346:Unit:=()
def _root_.PySem.W.Fast.tw4906562663691625274:Unit:=()
def _root_.PySem.W.Fast.tw11350768301375485359:Unit:=()
def _root_.PySem.W.Fast.tw16762488278264422013:Unit:=()
def _root_.PySem.W.Fast.tw8071580166317995983:Unit:=()
def _root_.PySem.W.Fast.tw2100342487214533743:Unit:=()
def _root_.PySem.W.Fast.tw16802648692996691823:Unit:=()
def _root_.PySem.W.Fast.tw4472528512898981276:Unit:=()
def _root_.PySem.W.Fast.tw16612387243297399029:Unit:=()
def _root_.PySem.W.Fast.tw17796886881199058732:Unit:=()
def _root_.PySem.W.Fast.tw9168807939302519996:Unit:=()
def _root_.PySem.W.Fast.tw14174227603074867235:Unit:=()
def _root_.PySem.W.Fast.tw1313335073805261148:Unit:=()
def _root_.PySem.W.Fast.tw2627820816383657938:Unit:=()
def _root_.PySem.W.Fast.tw11797362423804213781:Unit:=()
def _root_.PySem.W.Fast.tw5564302018305081301:Unit:=()
def _root_.PySem.W.Fast.tw1811583958523018072:Unit:=()
def _root_.PySem.W.Fast.tw9491711466038692927:Unit:=()
def _root_.PySem.W.Fast.tw11837388833472591063:Unit:=()
def _root_.PySem.W.Fast.tw8203819824954726190:Unit:=()
def _root_.PySem.W.Fast.tw16382615555596587765:Unit:=()
def _root_.PySem.W.Fast.tw8014714282795736918:Unit:=()
def _root_.PySem.W.Fast.tw12167224866139111665:Unit:=()
def _root_.PySem.W.Fast.tw12698886277547348134:Unit:=()
def _root_.PySem.W.Fast.tw315215267866545105:Unit:=()
def _root_.PySem.W.Fast.tw4464738963207006103:Unit:=()
def _root_.PySem.W.Fast.tw10801862865166322179:Unit:=()
def _root_.PySem.W.Fast.tw14513380007435888347:Unit:=()
def _root_.PySem.W.Fast.tw820240431465952:Unit:=()
def _root_.PySem.W.Fast.tw16148991008475949854:Unit:=()
def _root_.PySem.W.Fast.tw17299417661295039914:Unit:=()
def _root_.PySem.W.Fast.tw2700723975814060864:Unit:=()
def _root_.PySem.W.Fast.tw12871331902009044006:Unit:=()
def _root_.PySem.W.Fast.tw15009762068122792652:Unit:=()
def _root_.PySem.W.Fast.tw18406087949003631313:Unit:=()
def _root_.PySem.W.Fast.tw7366528954196125673:Unit:=()
def _root_.PySem.W.Fast.tw10398099786972818355:Unit:=()
def _root_.PySem.W.Fast.tw4801971503951484238:Unit:=()
def _root_.PySem.W.Fast.tw14882235821259376976:Unit:=()
def _root_.PySem.W.Fast.tw10840192871306569202:Unit:=()
def _root_.PySem.W.Fast.tw14493202300006616389:Unit:=()
def _root_.PySem.W.Fast.tw8369152188972572394:Unit:=()
def _root_.PySem.W.Fast.tw4375202953366391116:Unit:=()
def _root_.PySem.W.Fast.tw14750599487219081574:Unit:=()
def _root_.PySem.W.Fast.tw1206854970595262250:Unit:=()
def _root_.PySem.W.Fast.tw5437625062968393824:Unit:=()
def _root_.PySem.W.Fast.tw5830427986863402170:Unit:=()
def _root_.PySem.W.Fast.tw9668760801400760506:Unit:=()
def _root_.PySem.W.Fast.tw12379925391614786962:Unit:=()
def _root_.PySem.W.Fast.tw7282020644438526080:Unit:=()
def _root_.PySem.W.Fast.tw15245069030856036560:Unit:=()
def _root_.PySem.W.Fast.tw4789619148723838006:Unit:=()
def _root_.PySem.W.Fast.tw10256472145398073281:Unit:=()
def _root_.PySem.W.Fast.tw17788980546427784625:Unit:=()
def _root_.PySem.W.Fast.tw12367680281204634683:Unit:=()
def _root_.PySem.W.Fast.tw11462907623882147343:Unit:=()
def _root_.PySem.W.Fast.tw15050319468856234999:Unit:=()
def _root_.PySem.W.Fast.tw10294509311297670581:Unit:=()
def _root_.PySem.W.Fast.tw11737864261643536664:Unit:=()
def _root_.PySem.W.Fast.tw11547160327398351787:Unit:=()
def _root_.PySem.W.Fast.tw277085067915891042:Unit:=()
def _root_.PySem.W.Fast.tw11965613454990214680:Unit:=()
def _root_.PySem.W.Fast.tw3233642185878005384:Unit:=()
def _root_.PySem.W.Fast.tw10256772745324436176:Unit:=()
def _root_.PySem.W.Fast.tw6601848450741266915:Unit:=()
def _root_.PySem.W.Fast.tw6421880922230381732:Unit:=()
def _root_.PySem.W.Fast.tw6187923912482463123:Unit:=()
def _root_.PySem.W.Fast.tw14809045652903365171 : Unit := ()
set_option maxRecDepth 100000 in
set_option maxHeartbeats 0 in
theorem PySem.Challenge.cw_askhouse_k19_whole_lessons_holds : PySem.Challenge.rw_askhouse_k19_whole_lessons.Holds := by
 w_on; o_law; k_head; (case hw => w_witness2)
 k_fill
 refine L2.walk_ofK (l := PySem.Challenge.rw_askhouse_k19_whole_lessons) (n := 63) (k := 14) (x := "script") (CX := L2.CX0) (sp := fun K => My.sp_law K) rfl (by decide) rfl ⟨rfl, by decide, by decide⟩ (fun w h Y => PySem.W.kIn_of Y) ?F ?S ?C
 case F =>
  intro w mg fa h KX G hmg; have T : ∃ t, My.Txt (L2.KOf KX) mg t := by
   dsimp only [L2.KOf]; refine' My.txt_mk KX G ?z_len ?z_range ?z_isinstance ?z_list ?z_int ?z_bool ?z_enumerate ?z_tuple ?z_ValueError ?z_zip ?c_MOST_DOORS ?c_MOST_ROOMS ?a_House ?pg_House ?hd_House ?po_House ?sa_House ?mk_House ?kc_House ?tc_House ?tm_House ?n_House_doors ?n_House_ways ?n_House_lamps ?a_Book ?pg_Book ?hd_Book ?po_Book ?sa_Book ?mk_Book ?kc_Book ?tc_Book ?tm_Book ?n_Book_doors ?n_Book_noted ?a_Learner ?pg_Learner ?hd_Learner ?po_Learner ?sa_Learner ?mk_Learner ?kc_Learner ?tc_Learner ?tm_Learner ?n_Learner_book ?n_Learner_doors ?n_Learner_heads ?n_Learner_tails ?n_Learner_lines ?n_Learner_rows ?n_Learner_filled ?a_BadWord ?x_BadWord ?g1_BadWord ?g2_BadWord ?g3_BadWord ?g4_BadWord ?ty_BadWord ?mv_BadWord ?ms_BadWord ?a_OtherDoors ?x_OtherDoors ?g1_OtherDoors ?g2_OtherDoors ?g3_OtherDoors ?g4_OtherDoors ?ty_OtherDoors ?mv_OtherDoors ?ms_OtherDoors ?a_SaidOtherwise ?x_SaidOtherwise ?g1_SaidOtherwise ?g2_SaidOtherwise ?g3_SaidOtherwise ?g4_SaidOtherwise ?ty_SaidOtherwise ?mv_SaidOtherwise ?ms_SaidOtherwise ?tg ?tt ?a0 ?l0 ?c0 ?k0 ?a1 ?l1 ?c1 ?k1 ?a2 ?l2 ?c2 ?k2 ?a3 ?i3 ?l3 ?c3 ?k3 ?a4 ?i4 ?l4 ?c4 ?k4 ?a5 ?i5 ?l5 ?c5 ?k5 ?a6 ?i6 ?l6 ?c6 ?k6 ?a7 ?i7 ?l7 ?c7 ?k7 ?a8 ?l8 ?c8 ?k8 ?a9 ?l9 ?c9 ?k9 ?a10 ?l10 ?c10 ?k10 ?a11 ?l11 ?c11 ?k11 ?a12 ?l12 ?c12 ?k12 ?a13 ?l13 ?c13 ?k13 ?a14 ?i14 ?l14 ?c14 ?k14 ?a15 ?i15 ?l15 ?c15 ?k15 ?a16 ?i16 ?l16 ?c16 ?k16 ?a17 ?i17 ?l17 ?c17 ?k17 ?a18 ?i18 ?l18 ?c18 ?k18 ?a19 ?i19 ?l19 ?c19 ?k19 ?a20 ?i20 ?l20 ?c20 ?k20 ?a21 ?i21 ?l21 ?c21 ?k21 ?a22 ?i22 ?l22 ?c22 ?k22 ?a23 ?i23 ?l23 ?c23 ?k23 ?a24 ?i24 ?l24 ?c24 ?k24 ?a25 ?i25 ?l25 ?c25 ?k25 ?a26 ?i26 ?l26 ?c26 ?k26 ?a27 ?i27 ?l27 ?c27 ?k27 ?a28 ?i28 ?l28 ?c28 ?k28 ?a29 ?l29 ?c29 ?k29 ?a30 ?l30 ?c30 ?k30 ?a31 ?l31 ?c31 ?k31 ?a32 ?l32 ?c32 ?k32 ?a33 ?l33 ?c33 ?k33 ?a34 ?l34 ?c34 ?k34 ?a35 ?l35 ?c35 ?k35 ?a36 ?l36 ?c36 ?k36 ?a37 ?l37 ?c37 ?k37 ?a38 ?l38 ?c38 ?k38 ?a39 ?l39 ?c39 ?k39 ?a40 ?l40 ?c40 ?k40 ?a41 ?l41 ?c41 ?k41 ?a42 ?l42 ?c42 ?k42 ?a43 ?l43 ?c43 ?k43 ?a44 ?l44 ?c44 ?k44 ?a45 ?l45 ?c45 ?k45 ?a46 ?l46 ?c46 ?k46 ?a47 ?l47 ?c47 ?k47 ?a48 ?l48 ?c48 ?k48 ?a49 ?l49 ?c49 ?k49
   case z_len | z_range | z_isinstance | z_list | z_int | z_bool | z_enumerate | z_tuple | z_ValueError | z_zip | c_MOST_DOORS | c_MOST_ROOMS | a_House | pg_House | hd_House | po_House | sa_House | mk_House | kc_House | tc_House | tm_House | n_House_doors | n_House_ways | n_House_lamps | a_Book | pg_Book | hd_Book | po_Book | sa_Book | mk_Book | kc_Book | tc_Book | tm_Book | n_Book_doors | n_Book_noted | a_Learner | pg_Learner | hd_Learner | po_Learner | sa_Learner | mk_Learner | kc_Learner | tc_Learner | tm_Learner | n_Learner_book | n_Learner_doors | n_Learner_heads | n_Learner_tails | n_Learner_lines | n_Learner_rows | n_Learner_filled | a_BadWord => k_is
   (case x_BadWord => k_exc)
   case g1_BadWord | g2_BadWord | g3_BadWord | g4_BadWord | ty_BadWord | mv_BadWord | ms_BadWord | a_OtherDoors => k_is
   (case x_OtherDoors => k_exc)
   case g1_OtherDoors | g2_OtherDoors | g3_OtherDoors | g4_OtherDoors | ty_OtherDoors | mv_OtherDoors | ms_OtherDoors | a_SaidOtherwise => k_is
   (case x_SaidOtherwise => k_exc)
   case g1_SaidOtherwise | g2_SaidOtherwise | g3_SaidOtherwise | g4_SaidOtherwise | ty_SaidOtherwise | mv_SaidOtherwise | ms_SaidOtherwise | tg | tt | a0 | l0 | c0 | k0 | a1 | l1 | c1 | k1 | a2 | l2 | c2 | k2 | a3 | i3 | l3 | c3 | k3 | a4 | i4 | l4 | c4 | k4 | a5 | i5 | l5 | c5 | k5 | a6 | i6 | l6 | c6 | k6 | a7 | i7 | l7 | c7 | k7 | a8 | l8 | c8 | k8 | a9 | l9 | c9 | k9 | a10 | l10 | c10 | k10 | a11 | l11 | c11 | k11 | a12 | l12 | c12 | k12 | a13 | l13 | c13 | k13 | a14 | i14 | l14 | c14 | k14 | a15 | i15 | l15 | c15 | k15 | a16 | i16 | l16 | c16 | k16 | a17 | i17 | l17 | c17 | k17 | a18 | i18 | l18 | c18 | k18 | a19 | i19 | l19 | c19 | k19 | a20 | i20 | l20 | c20 | k20 | a21 | i21 | l21 | c21 | k21 | a22 | i22 | l22 | c22 | k22 | a23 | i23 | l23 | c23 | k23 | a24 | i24 | l24 | c24 | k24 | a25 | i25 | l25 | c25 | k25 | a26 | i26 | l26 | c26 | k26 | a27 | i27 | l27 | c27 | k27 | a28 | i28 | l28 | c28 | k28 | a29 | l29 | c29 | k29 | a30 | l30 | c30 | k30 | a31 | l31 | c31 | k31 | a32 | l32 | c32 | k32 | a33 | l33 | c33 | k33 | a34 | l34 | c34 | k34 | a35 | l35 | c35 | k35 | a36 | l36 | c36 | k36 | a37 | l37 | c37 | k37 | a38 | l38 | c38 | k38 | a39 | l39 | c39 | k39 | a40 | l40 | c40 | k40 | a41 | l41 | c41 | k41 | a42 | l42 | c42 | k42 | a43 | l43 | c43 | k43 | a44 | l44 | c44 | k44 | a45 | l45 | c45 | k45 | a46 | l46 | c46 | k46 | a47 | l47 | c47 | k47 | a48 | l48 | c48 | k48 | a49 | l49 | c49 | k49 => k_is
  obtain ⟨t, T⟩ := T; have e0 := hmg.symm.trans T.mg_law; cases e0; refine' ⟨t.fd_law, ?b, fun base kb nb => My.ok_law T⟩; obtain ⟨oc, od, kV, doc, pm, an, cdv, ct, osl, e, _, _⟩ := T.F_law.ex; rw [e]; exact fun s u => .of_eq rfl
 case S => exact fun K H a ns hl hO hS => ⟨a, ns, rfl, hS, hl, fun _ => rfl⟩
 case C => exact fun _ _ _ _ h => h
#print axioms PySem.Challenge.cw_askhouse_k19_whole_lessons_holds
