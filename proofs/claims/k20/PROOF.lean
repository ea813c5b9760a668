import PyProof.Rows.All
import Wide.All
import OpenK.AllK
import Wide.FinOn
import Lean
import PyProof.EqAt
import PyProof.EqKinds
import PyProof.TupleCall
import PyProof.Draws
import PySem.Challenge.RW_askhouse_k20_what_learners_refuse
set_option Elab.async false
set_option linter.all false
set_option maxRecDepth 100000
namespace L2
open PySem PySem.Spec PyProof.Rows
abbrev Key:=Sum Int Str
def keyIs:Key→Value→Bool
 | .inl k,v=>Value.isInt k v
 | .inr x,v=>Value.isStrOf x v
def keyH (w:World):Key→Int
 | .inl k=>hashInt k
 | .inr x=>hashStr w x
theorem keyIs_shape:∀ {k:Key} {v:Value},keyIs k v=true→(∃ i t,k=Sum.inl i∧v=Value.int i t)∨(∃ x t,k=Sum.inr x∧v=Value.str x t)
 | .inl i,v,h=>by
  obtain ⟨t,e⟩:=Value.isInt_shape (k:=i) (v:=v) h
  exact .inl ⟨i,t,rfl,e⟩
 | .inr x,v,h=>by
  obtain ⟨t,e⟩:=Value.isStrOf_shape (x:=x) (v:=v) h
  exact .inr ⟨x,t,rfl,e⟩
theorem keyIs_int (i:Int) (t:Tok):keyIs (.inl i) (.int i t)=true:=by simp [keyIs,Value.isInt]
theorem keyIs_str (x:Str) (t:Tok):keyIs (.inr x) (.str x t)=true:=by simp [keyIs,Value.isStrOf]
theorem key_ll (a b:Int):decide ((Sum.inl a:Key)=Sum.inl b)=(a == b):=by
 by_cases e:a=b
 ·subst e;simp
 ·have h:¬ (Sum.inl a:Key)=Sum.inl b:=fun q=>e (Sum.inl.inj q)
  rw [decide_eq_false h]
  exact (beq_eq_false_iff_ne.mpr e).symm
theorem key_rr (a b:Str):decide ((Sum.inr a:Key)=Sum.inr b)=decide (a=b):=by
 by_cases e:a=b
 ·subst e;simp
 ·have h:¬ (Sum.inr a:Key)=Sum.inr b:=fun q=>e (Sum.inr.inj q)
  rw [decide_eq_false h,decide_eq_false e]
theorem key_lr (a:Int) (b:Str):decide ((Sum.inl a:Key)=Sum.inr b)=false:=decide_eq_false (fun q=>nomatch q)
theorem key_rl (a:Str) (b:Int):decide ((Sum.inr a:Key)=Sum.inl b)=false:=decide_eq_false (fun q=>nomatch q)
def mixKind (prog:Program) (w:World):PySem.KeyKind prog w Key where
 is:=keyIs
 hash:=keyH w
 inj:=fun v a b ha hb=>by
  rcases keyIs_shape ha with ⟨i,t,rfl,rfl⟩ | ⟨x,t,rfl,rfl⟩
  ·rcases keyIs_shape hb with ⟨j,u,rfl,e⟩ | ⟨y,u,rfl,e⟩
   ·injection e with e1 _;rw [e1]
   ·exact nomatch e
  ·rcases keyIs_shape hb with ⟨j,u,rfl,e⟩ | ⟨y,u,rfl,e⟩
   ·exact nomatch e
   ·injection e with e1 _;rw [e1]
 byValue:=fun k v h=>by
  rcases keyIs_shape h with ⟨i,t,rfl,rfl⟩ | ⟨x,t,rfl,rfl⟩ <;> rfl
 pyHash:=fun hv h=>by
  rcases keyIs_shape hv with ⟨i,t,rfl,rfl⟩ | ⟨x,t,rfl,rfl⟩
  ·exact wpAny_pyHash_int h
  ·exact wpAny_pyHash_str h
 eqBool:=fun hu hv h=>by
  rcases keyIs_shape hu with ⟨i,t,rfl,rfl⟩ | ⟨x,t,rfl,rfl⟩
  ·rcases keyIs_shape hv with ⟨j,u,rfl,rfl⟩ | ⟨y,u,rfl,rfl⟩
   ·rw [key_ll] at h;exact wpAny_eqBool_int h
   ·rw [key_lr] at h;exact SeqAt.EqAt.int_str i t y u _ _ _ _ h
  ·rcases keyIs_shape hv with ⟨j,u,rfl,rfl⟩ | ⟨y,u,rfl,rfl⟩
   ·rw [key_rl] at h;exact SeqAt.EqAt.str_int x t j u _ _ _ _ h
   ·rw [key_rr] at h;exact wpAny_eqBool_str h
 «strs»:=fun k x t v h=>by
  rcases keyIs_shape h with ⟨i,u,rfl,e⟩ | ⟨y,u,rfl,e⟩
  ·exact nomatch e
  ·injection e with e1 _
   subst e1
   cases v <;> rfl
theorem mixKind_int (prog:Program) (w:World) (i:Int) (t:Tok):(mixKind prog w).is (.inl i) (.int i t)=true:=keyIs_int i t
theorem mixKind_str (prog:Program) (w:World) (x:Str) (t:Tok):(mixKind prog w).is (.inr x) (.str x t)=true:=keyIs_str x t
end L2
namespace L2
open PySem PySem.Spec PyProof.Rows
inductive V where
 | non | bl (b:Bool) | int (i:Int) | str (x:Str) | byt (b:Array UInt8) | flt (b:UInt64) | ref (a:Addr) | ty (n:String)
 deriving DecidableEq
def RelV:V→Value→Prop
 | .non,u=>u=Value.none
 | .bl b,u=>u=Value.bool b
 | .int i,u=>∃ t,u=Value.int i t
 | .str x,u=>∃ t,u=Value.str x t
 | .byt b,u=>∃ t,u=Value.bytes b t
 | .flt b,u=>∃ t,u=Value.float b t
 | .ref a,u=>u=Value.ref a
 | .ty n,u=>u=Value.type n
abbrev Vals:List V→List Value→Prop:=Paired RelV
theorem Vals.length {xs:List V} {us:List Value} (r:Vals xs us):xs.length=us.length:=Paired.length r
theorem Vals.get:∀ {xs:List V} {us:List Value} {i:Nat} {x:V},Vals xs us→xs[i]?=some x→∃ u,us[i]?=some u∧RelV x u
 | _,_,_,_,.nil,e=>by simp at e
 | _,_,0,_,.cons r _,e=>by simp at e;subst e;exact ⟨_,rfl,r⟩
 | _,_,i+1,x,.cons _ t,e=>by
  obtain ⟨u,h1,h2⟩:=Vals.get (i:=i) (x:=x) t (by simpa using e)
  exact ⟨u,by simpa using h1,h2⟩
theorem Vals.append:∀ {xs ys:List V} {us ws:List Value},Vals xs us→Vals ys ws→Vals (xs++ys) (us++ws)
 | _,_,_,_,.nil,s=>s
 | _,_,_,_,.cons r t,s=>.cons r (Vals.append t s)
theorem Vals.take:∀ {xs:List V} {us:List Value} (n:Nat),Vals xs us→Vals (xs.take n) (us.take n)
 | _,_,0,_=>.nil
 | _,_,_+1,.nil=>.nil
 | _,_,n+1,.cons r t=>.cons r (Vals.take n t)
theorem Vals.drop:∀ {xs:List V} {us:List Value} (n:Nat),Vals xs us→Vals (xs.drop n) (us.drop n)
 | _,_,0,r=>r
 | _,_,_+1,.nil=>.nil
 | _,_,n+1,.cons _ t=>Vals.drop n t
theorem Vals.none_of:∀ {xs:List V} {us:List Value} {i:Nat},Vals xs us→xs[i]?=none→us[i]?=none:=fun {xs us i} r e=>by
 have h1:=r.length
 have h2:xs.length≤i:=List.getElem?_eq_none_iff.mp e
 exact List.getElem?_eq_none_iff.mpr (by omega)
def RelO:Option V→Option Value→Prop
 | some v,some u=>RelV v u
 | none,none=>True
 | _,_=>False
def KV {κ:Type}:List (κ×V)→List (κ×Value)→Prop:=Paired fun (p:κ×V) (q:κ×Value)=>p.1=q.1∧RelV p.2 q.2
def kV:Key→V
 | .inl i=>.int i
 | .inr x=>.str x
inductive HO where
 | lst (xs:List V)
 | tup (xs:List V)
 | dK (kvs:List (Key×V)) | dT (kvs:List (List Key×V))
 | set (S:Int→Bool) (n:Nat)
 | ins (C dx:Addr) (fs:List (Str×V))
 | own (x:Addr)
 | xd (fs:List (Str×V))
 | met (f x:Addr)
 | rng (lo hi:Int)
 | frz (o:Obj) (u:HO)
 | tbl (ps:Array Value)
 | ext (φ:Heap→Prop)
abbrev Hp:=Addr→Option HO
def upd (H:Hp) (a:Addr) (o:HO):Hp:=fun b=>if b=a then some o else H b
theorem upd_same {H:Hp} {a:Addr} {o:HO}:upd H a o a=some o:=by unfold upd;rw [if_pos rfl]
theorem upd_ne {H:Hp} {a b:Addr} {o:HO} (h:b≠a):upd H a o b=H b:=by unfold upd;rw [if_neg h]
theorem upd_upd {H:Hp} {a:Addr} {o u:HO}:upd (upd H a o) a u=upd H a u:=by
 funext b;unfold upd;split <;> rfl
theorem ne_of {H:Hp} {a b:Addr} {o u:HO} (h:H a=some o) (h':H b=some u) (d:o≠u):a≠b:=by
 intro e;subst e;rw [h] at h';exact d (Option.some.inj h')
theorem ne_of_none {H:Hp} {a b:Addr} {o:HO} (h:H a=some o) (h':H b=none):a≠b:=by
 intro e;subst e;rw [h] at h';cases h'
section
variable (P:Program) (w:World)
def ObjOk (H:Hp) (h:Heap) (a:Addr):HO→Prop
 | .lst xs=>xs.length≤sizeLine∧∃ (its:List Value) (n:Nat),Vals xs its∧h.get? a=some { cls:=.type "list",data:=.seq its.toArray n }
 | .tup xs=>xs.length≤sizeLine∧∃ its:List Value,Vals xs its∧IsTup h a its.toArray
 | .dK kvs=>kvs.length≤sizeLine∧(a == sysModules)=false∧∃ vs,KV kvs vs∧h.DictOf (mixKind P w) a vs
 | .dT kvs=>kvs.length≤sizeLine∧(a == sysModules)=false∧∃ xs:List (List Key×Addr×Value),
   Paired (fun (p:List Key×V) (q:List Key×Addr×Value)=>p.1=q.1∧H q.2.1=some (.tup (p.1.map kV))∧RelV p.2 q.2.2) kvs xs ∧
   ∃ o es ep,h.get? a=some o∧o.ExactDict∧o.data=.dict es ep∧es.toList=xs.map (entryOfKey (tupleKind (mixKind P w)))∧(xs.map (·.1)).Nodup
 | .set S n=>h.SetOf (intKind P w) a S n
 | .ins C dx fs=>H dx=some (.own a)∧fs.length≤1000∧dx≠a∧h.get? a=some (PySem.W.instObj C dx) ∧
   ∃ mA,h.Ns1 dx mA∧(∀ f,RelO (fs.lookup f) (mA f))∧PySem.Within mA (fs.map (·.1))
 | .own _=>∃ o,h.get? a=some o
 | .xd fs=>∃ mA,h.Ns1 a mA∧∀ f,RelO (fs.lookup f) (mA f)
 | .rng lo hi=>∃ t u v,h.get? a=some { cls:=.type "range",data:=.fields #[.int lo t,.int hi u,.int 1 v] }
 | .frz o u=>h.get? a=some o∧ObjOk H h a u
 | .tbl ps=>h.get? a=some { cls:=.none,data:=.fields ps }
 | .met f x=>h.get? a=some (PySem.W.methodObj (.ref f) (.ref x))
 | .ext φ=>φ h∧(∃ o,h.get? a=some o)∧∀ h1 h2:Heap,φ h1→(∀ o,h1.get? a=some o→h2.get? a=some o)→φ h2
def HOk (H:Hp) (h:Heap):Prop:=∀ a o,H a=some o→ObjOk P w H h a o
end
section
variable {P:Program} {w:World} {H H':Hp} {h h':Heap} {a:Addr} {o:HO}
theorem ObjOk.lt (x:ObjOk P w H h a o):a < h.objs.size:=by
 cases o with
 | lst xs=>obtain ⟨_,_,_,_,e⟩:=x;exact Heap.lt_size e
 | tup xs=>obtain ⟨_,_,_,p⟩:=x;exact p.lt
 | dK kvs=>obtain ⟨_,_,_,_,o,_,_,e,_⟩:=x;exact Heap.lt_size e
 | dT kvs=>obtain ⟨_,_,_,_,o,_,_,e,_⟩:=x;exact Heap.lt_size e
 | set S n=>obtain ⟨o,_,_,_,e,_⟩:=x;exact Heap.lt_size e
 | ins C dx fs=>obtain ⟨_,_,_,e,_⟩:=x;exact Heap.lt_size e
 | own y=>obtain ⟨_,e⟩:=x;exact Heap.lt_size e
 | xd fs=>obtain ⟨_,⟨_,_,_,e,_⟩,_⟩:=x;exact Heap.lt_size e
 | rng lo hi=>obtain ⟨_,_,_,e⟩:=x;exact Heap.lt_size e
 | frz ob u=>obtain ⟨e,_⟩:=x;exact Heap.lt_size e
 | tbl ps=>exact Heap.lt_size (show h.get? a=some _ from x)
 | met f y=>exact Heap.lt_size (show h.get? a=some _ from x)
 | ext φ=>obtain ⟨_,⟨_,e⟩,_⟩:=x;exact Heap.lt_size e
theorem Paired.mapP {α β:Type} {F G:α→β→Prop}:∀ {l₁:List α} {l₂:List β},Paired F l₁ l₂→(∀ a b,F a b→G a b)→Paired G l₁ l₂
 | _,_,.nil,_=>.nil
 | _,_,.cons r t,f=>.cons (f _ _ r) (Paired.mapP t f)
theorem ObjOk.stay (x:ObjOk P w H h a o) (k:∀ b u,(b=a∨H b=some (.own a))→h.get? b=some u→h'.get? b=some u)
  (ho:∀ b,H b=some (.own a)→H' b=some (.own a)) (ht:∀ b xs,H b=some (.tup xs)→H' b=some (.tup xs)):ObjOk P w H' h' a o:=by
 induction o with
 | lst xs=>obtain ⟨z,its,n,r,e⟩:=x;exact ⟨z,its,n,r,k _ _ (.inl rfl) e⟩
 | tup xs=>obtain ⟨z,its,r,ob,e,c⟩:=x;exact ⟨z,its,r,ob,k _ _ (.inl rfl) e,c⟩
 | dK kvs=>obtain ⟨z,y,vs,r,ob,es,ep,e,c⟩:=x;exact ⟨z,y,vs,r,ob,es,ep,k _ _ (.inl rfl) e,c⟩
 | dT kvs =>
  obtain ⟨z,y,xs,r,ob,es,ep,e,c⟩:=x
  exact ⟨z,y,xs,Paired.mapP r fun p q z=>⟨z.1,ht _ _ z.2.1,z.2.2⟩,ob,es,ep,k _ _ (.inl rfl) e,c⟩
 | set S n=>obtain ⟨ob,es,ep,t,e,c⟩:=x;exact ⟨ob,es,ep,t,k _ _ (.inl rfl) e,c⟩
 | ins C dx fs =>
  obtain ⟨d,z,ne,e,mA,⟨od,es,ep,e2,c⟩,r⟩:=x
  exact ⟨ho _ d,z,ne,k _ _ (.inl rfl) e,mA,⟨od,es,ep,k _ _ (.inr d) e2,c⟩,r⟩
 | own y=>obtain ⟨ob,e⟩:=x;exact ⟨ob,k _ _ (.inl rfl) e⟩
 | xd fs=>obtain ⟨mA,⟨od,es,ep,e,c⟩,r⟩:=x;exact ⟨mA,⟨od,es,ep,k _ _ (.inl rfl) e,c⟩,r⟩
 | rng lo hi=>obtain ⟨t,u,v,e⟩:=x;exact ⟨t,u,v,k _ _ (.inl rfl) e⟩
 | frz ob u ih=>obtain ⟨e,q⟩:=x;exact ⟨k _ _ (.inl rfl) e,ih q⟩
 | tbl ps =>
  have e:h.get? a=some { cls:=.none,data:=.fields ps }:=x
  show h'.get? a=some { cls:=.none,data:=.fields ps }
  exact k a _ (.inl rfl) e
 | met f y =>
  have e:h.get? a=some (PySem.W.methodObj (.ref f) (.ref y)):=x
  show h'.get? a=some (PySem.W.methodObj (.ref f) (.ref y))
  exact k a _ (.inl rfl) e
 | ext φ=>obtain ⟨p,⟨o,e⟩,st⟩:=x;exact ⟨st _ _ p fun o q=>k _ _ (.inl rfl) q,⟨o,k _ _ (.inl rfl) e⟩,st⟩
theorem HOk.lt (x:HOk P w H h) (e:H a=some o):a < h.objs.size:=(x a o e).lt
theorem HOk.fresh (x:HOk P w H h) (e:h.objs.size≤a):H a=none:=by
 cases q:H a with
 | none=>rfl
 | some u=>exact absurd (Nat.lt_of_lt_of_le (x.lt q) e) (Nat.lt_irrefl _)
theorem HOk.kept (x:HOk P w H h) (k:∀ b u,h.get? b=some u→h'.get? b=some u):HOk P w H h':=fun a o e =>
 (x a o e).stay (fun b u _ q=>k b u q) (fun _ q=>q) fun _ _ q=>q
theorem HOk.laid (x:HOk P w H h) (k:∀ b u,h.get? b=some u→h'.get? b=some u) (hp:h.objs.size≤a) (new:ObjOk P w (upd H a o) h' a o):HOk P w (upd H a o) h':=fun b u e=>by
 have hn:=x.fresh hp
 by_cases hb:b=a
 ·subst hb;rw [upd_same] at e;cases e;exact new
 ·rw [upd_ne hb] at e
  exact (x b u e).stay (fun c v _ q=>k c v q) (fun c q=>by rw [upd_ne (ne_of_none q hn)];exact q) fun c xs q=>by rw [upd_ne (ne_of_none q hn)];exact q
end
def Rd (H:Hp) (a:Addr) (u:HO):Prop:=H a=some u∨∃ o,H a=some (.frz o u)
theorem Rd.ok {P:Program} {w:World} {H:Hp} {h:Heap} {a:Addr} {u:HO} (r:Rd H a u) (x:HOk P w H h):ObjOk P w H h a u:=by
 rcases r with r | ⟨o,r⟩
 ·exact x a u r
 ·obtain ⟨_,q⟩:=x a _ r
  exact q
def Mut:Option HO→Prop
 | some (.lst _)=>True
 | some (.dK _)=>True
 | some (.dT _)=>True
 | some (.set _ _)=>True
 | some (.ins _ _ _)=>True
 | some (.ext _)=>True
 | _=>False
section
variable {P:Program} {w:World} {H:Hp} {h h':Heap} {x e:Addr} {o':HO}
theorem HOk.write (ok:HOk P w H h) (mu:Mut (H x)) (he:e=x∨H e=some (.own x)) (k:∀ b u,b≠e→h.get? b=some u→h'.get? b=some u) (heo:∃ u,h'.get? e=some u)
  (new:ObjOk P w (upd H x o') h' x o'):HOk P w (upd H x o') h':=fun b u q=>by
 have nown:∀ c y,H c=some (.own y)→c≠x:=fun c y r z=>by subst z;rw [r] at mu;exact mu
 have ntup:∀ c xs,H c=some (.tup xs)→c≠x:=fun c xs r z=>by subst z;rw [r] at mu;exact mu
 by_cases hb:b=x
 ·subst hb;rw [upd_same] at q;cases q;exact new
 ·rw [upd_ne hb] at q
  by_cases hbe:b=e
  ·have q':H b=some (.own x):=by
    rcases he with z | z
    ·exact absurd (hbe.trans z) hb
    ·rw [hbe];exact z
   rw [q] at q';cases q'
   obtain ⟨v,hv⟩:=heo
   exact ⟨v,by rw [hbe];exact hv⟩
  ·refine (ok b u q).stay (fun c v hc r=>k c v ?_ r) (fun c r=>by rw [upd_ne (nown c b r)];exact r) fun c xs r=>by rw [upd_ne (ntup c xs r)];exact r
   rcases hc with rfl | hc
   ·exact hbe
   ·rintro rfl
    rcases he with z | z
    ·exact nown c b hc z
    ·rw [hc] at z;cases z;exact hb rfl
end
structure Un (fs ex:List Addr) (H H':Hp) (h h':Heap):Prop where
 keep:∀ b o,h.get? b=some o→H b=none→b∉fs→b∉ex→h'.get? b=some o
 slot:∀ b o,h.get? b=some o→H b=none→b∈fs→b∉ex→∃ sl,h'.get? b=some { o with slots:=sl }
 free:∀ b o,h.get? b=some o→H b=none→b∉ex→H' b=none
 there:∀ b o,h.get? b=some o→b∉ex→∃ o',h'.get? b=some o'
 tups:∀ b xs,H b=some (.tup xs)→H' b=some (.tup xs)
 frzs:∀ b o u,H b=some (.frz o u)→H' b=some (.frz o u)
 tbls:∀ b ps,H b=some (.tbl ps)→∃ more,H' b=some (.tbl (ps++more))
section
variable {fs fs' ex ex':List Addr} {H H1 H2:Hp} {h h1 h2 h':Heap} {a x e:Addr} {o:HO}
theorem Un.any (u:Un fs ex H H1 h h1) {b:Addr} {ob:Obj} (q:h.get? b=some ob) (n:H b=none) (hx:b∉ex):∃ sl,h1.get? b=some { ob with slots:=sl }:=by
 by_cases hb:b∈fs
 ·exact u.slot b ob q n hb hx
 ·exact ⟨ob.slots,u.keep b ob q n hb hx⟩
theorem Un.kept (k:∀ b u,h.get? b=some u→h'.get? b=some u):Un fs ex H H h h' :=
 ⟨fun b ob q _ _ _=>k b ob q,fun b ob q _ _ _=>⟨ob.slots,k b ob q⟩,fun _ _ _ n _=>n,fun b ob q _=>⟨ob,k b ob q⟩,fun _ _ q=>q,fun _ _ _ q=>q,fun _ ps q=>⟨#[],by rw [q];simp⟩⟩
theorem Un.refl:Un fs ex H H h h:=Un.kept fun _ _ q=>q
theorem Un.laid (k:∀ b u,h.get? b=some u→h'.get? b=some u) (hp:h.objs.size≤a) (hn:H a=none):Un fs ex H (upd H a o) h h' where
 keep:=fun b u q _ _ _=>k b u q
 slot:=fun b u q _ _ _=>⟨u.slots,k b u q⟩
 free:=fun b u q n _=>by rw [upd_ne (Nat.ne_of_lt (Nat.lt_of_lt_of_le (Heap.lt_size q) hp))];exact n
 there:=fun b u q _=>⟨u,k b u q⟩
 tups:=fun b xs q=>by rw [upd_ne (ne_of_none q hn)];exact q
 frzs:=fun b u xs q=>by rw [upd_ne (ne_of_none q hn)];exact q
 tbls:=fun b ps q=>⟨#[],by rw [upd_ne (ne_of_none q hn),q];simp⟩
theorem Un.write (mu:Mut (H x)) (he:e=x∨H e=some (.own x)) (k:∀ b u,b≠e→h.get? b=some u→h'.get? b=some u) (heo:∃ u,h'.get? e=some u):Un fs ex H (upd H x o) h h':=by
 have hx:∀ b,H b=none→b≠x:=fun b n z=>by subst z;rw [n] at mu;exact mu
 have hb:∀ b,H b=none→b≠e:=fun b n z=>by
  subst z
  rcases he with r | r
  ·exact hx b n r
  ·rw [n] at r;cases r
 have hm:∀ b u,H b=some u→¬ Mut (some u)→b≠x:=fun b u q nm z=>by subst z;rw [q] at mu;exact nm mu
 refine ⟨fun b u q n _ _=>k b u (hb b n) q,fun b u q n _ _=>⟨u.slots,k b u (hb b n) q⟩,fun b u q n _=>by rw [upd_ne (hx b n)];exact n,fun b u q _=>?_,
  fun b xs q=>by rw [upd_ne (hm b _ q fun z=>z)];exact q,fun b u xs q=>by rw [upd_ne (hm b _ q fun z=>z)];exact q,fun b ps q=>⟨#[],by rw [upd_ne (hm b _ q fun z=>z),q];simp⟩⟩
 by_cases hbe:b=e
 ·subst hbe;exact heo
 ·exact ⟨u,k b u hbe q⟩
end
def trk (h:Heap) (H:Hp):List Addr:=(List.range h.objs.size).filter fun a=>(H a).isSome
def hidT (h:Heap) (H:Hp):Heap:=PySem.W.hideAll h (trk h H)
theorem hidT_size (h:Heap) (H:Hp):(hidT h H).objs.size=h.objs.size:=PySem.W.hideAll_size _ _
theorem hidT_get {h:Heap} {H:Hp} {b:Addr} {o:Obj} (e:h.get? b=some o) (n:H b=none):(hidT h H).get? b=some o :=
 PySem.W.hideAll_get _ e fun hm=>by
  have q:(H b).isSome=true:=(List.mem_filter.mp hm).2
  rw [n] at q;simp at q
theorem of_hidT {h:Heap} {H:Hp} {b:Addr} {o:Obj} (e:(hidT h H).get? b=some o):h.get? b=some o∧H b=none:=by
 have e':h.get? b=some o:=PySem.W.of_hideAll (trk h H) e
 refine ⟨e',?_⟩
 cases q:H b with
 | none=>rfl
 | some x =>
  have hm:b∈trk h H:=List.mem_filter.mpr ⟨List.mem_range.mpr (Heap.lt_size e'),by simp [q]⟩
  have z:(hidT h H).get? b=none:=PySem.W.hideAll_none (trk h H) hm
  rw [z] at e;cases e
end L2
namespace L2
open PySem PySem.Spec PyProof.Rows
structure Mod (K:PySem.W.Frag) (mg:Str→Option Value) (base:Heap):Prop where
 kin:K.In base
 glob:base.Ns mainGlobals mg
 blt:∃ mb,base.Ns builtinsNs mb∧∀ x:Str,x≠"__name__"→mb x=bootBuiltins x
 nolimit:base.NoLimit
structure Cx where
 prog:Program
 w:World
 K:PySem.W.Frag
 mg:Str→Option Value
 base:Heap
 A:Around
 N:List Str
 s₀:Shared
 H₀:Hp
 env:Env
 outer:List Env
 stack:List Env
 ex:List Addr
 fn:Str→Bool
 calm:Bool
 pn:List (Addr×Obj)
 xe:Value→Shared→Prop
def frs (l:List Env):List Addr:=l.filterMap (·.frame)
abbrev Cx.fs (X:Cx):List Addr:=frs X.outer
def Vis (sc:Scope) (x:Str):Prop:=sc.names.lookup x=some .local∨sc.names.lookup x=some .cell∨sc.names.lookup x=some .free
def Loc (sc:Scope) (x:Str):Prop:=sc.names.lookup x=some .local∨sc.names.lookup x=some .cell
def Look (env:Env) (h:Heap) (m:Str→Option Value) (x:Str) (u:Value):Prop :=
 (env.kindOf x=some .local∧m x=some u)∨((env.kindOf x=some .cell∨env.kindOf x=some .free)∧∃ c,env.cells.lookup x=some c∧h.IsCell c (some u))
structure Cx.Ok (X:Cx):Prop where
 mod:Mod X.K X.mg X.base
 kind:X.env.scope.kind=.function
 glob:X.env.globals=mainGlobals
 blt:X.env.builtins=builtinsNs
 above:X.s₀.heap.objs.size≤X.env.locals
 inj:∀ x y c,X.env.cells.lookup x=some c→X.env.cells.lookup y=some c→x=y
 has:∀ x,(X.env.kindOf x=some .cell∨X.env.kindOf x=some .free)→∃ c,X.env.cells.lookup x=some c
 cab:∀ x c,X.fn x=true→X.env.cells.lookup x=some c→X.s₀.heap.objs.size≤c
 hd:X.calm=true→X.A.handled=none
 frames:X.A.frames=some X.stack
 stk:X.stack=X.outer∨(X.stack=X.env :: X.outer∧X.env.frame=some X.env.locals)
 exf:∀ b∈X.ex,b≠X.env.locals∧∀ x c,X.env.cells.lookup x=some c→c≠b
 bs:∀ b o,X.base.get? b=some o→X.s₀.heap.get? b=some o∧X.H₀ b=none
 bsz:X.base.objs.size≤X.s₀.heap.objs.size
 noex:∀ b o,X.base.get? b=some o→b∉X.ex
 exfs:∀ b∈X.ex,b∉X.fs
 funs:X.s₀.heap.FunFrames X.base X.outer
 frf:∀ b∈X.fs,X.H₀ b=none
structure Inv (X:Cx) (pins:List (Addr×Obj)) (σ:List (Option V)) (H:Hp) (s:Shared):Prop where
 ok:X.Ok
 os:s.os=X.s₀.os
 bare:AllBare s.gens
 base:Un X.fs X.ex X.H₀ H X.s₀.heap s.heap
 loc:∃ m,s.heap.Ns X.env.locals m∧∀ (i:Nat) (x:Str) (v:V),X.N[i]?=some x→σ[i]?=some (some v)→Vis X.env.scope x→∃ u,RelV v u∧Look X.env s.heap m x u
 cell:∀ x c,X.env.cells.lookup x=some c→∃ v,s.heap.IsCell c v
 free:H X.env.locals=none
 freeC:∀ x c,X.env.cells.lookup x=some c→H c=none
 pin:∀ p∈X.pn++pins,s.heap.get? p.1=some p.2∧H p.1=none∧p.1≠X.env.locals∧p.1∉X.fs∧∀ v,p.2.data≠.cell v
 hok:HOk X.prog X.w H s.heap
 len:σ.length=X.N.length
section
variable {X:Cx} {pins:List (Addr×Obj)} {σ:List (Option V)} {H H':Hp} {s:Shared} {h':Heap}
theorem Cx.Ok.nofr (ok:X.Ok) {b:Addr} {o:Obj} (e:X.base.get? b=some o):b∉X.fs:=fun hb=>by
 have:=(ok.funs.mem hb).1
 rw [e] at this;cases this
theorem Inv.bs (I:Inv X pins σ H s):∀ b o,X.base.get? b=some o→s.heap.get? b=some o∧H b=none:=fun b o e =>
 ⟨I.base.keep b o (I.ok.bs b o e).1 (I.ok.bs b o e).2 (I.ok.nofr e) (I.ok.noex b o e),I.base.free b o (I.ok.bs b o e).1 (I.ok.bs b o e).2 (I.ok.noex b o e)⟩
theorem Inv.bk (I:Inv X pins σ H s):∀ b o,X.base.get? b=some o→s.heap.get? b=some o:=fun b o e=>(I.bs b o e).1
theorem Inv.mod (I:Inv X pins σ H s):Mod X.K X.mg X.base:=I.ok.mod
theorem Inv.kIn (I:Inv X pins σ H s):X.K.In s.heap:=I.ok.mod.kin.keeps I.bk
theorem Inv.lt (I:Inv X pins σ H s):X.env.locals < s.heap.objs.size:=let ⟨_,hn,_⟩:=I.loc;hn.lt
theorem Inv.sz (I:Inv X pins σ H s):X.s₀.heap.objs.size≤s.heap.objs.size:=Nat.le_trans I.ok.above (Nat.le_of_lt I.lt)
theorem Inv.nofs (I:Inv X pins σ H s) {a:Addr} (h:s.heap.objs.size≤a):a∉X.fs:=fun hb=>by
 obtain ⟨_,o,ho,_⟩:=I.ok.funs.mem hb
 exact absurd (Nat.lt_of_lt_of_le (Heap.lt_size ho) (Nat.le_trans I.sz h)) (Nat.lt_irrefl _)
theorem Inv.cne (I:Inv X pins σ H s):∀ x c,X.env.cells.lookup x=some c→c≠X.env.locals:=fun x c e z=>by
 obtain ⟨v,o,ho,hd⟩:=I.cell x c e
 obtain ⟨m,⟨o',es,ep,ho',hd',_⟩,_⟩:=I.loc
 rw [z,ho'] at ho;cases ho;rw [hd'] at hd;cases hd
theorem Inv.funs (I:Inv X pins σ H s):s.heap.FunFrames X.base X.outer:=by
 have all:∀ (l:List Env),(∀ b∈frs l,b∈X.fs)→X.s₀.heap.FunFrames X.base l→s.heap.FunFrames X.base l:=by
  intro l
  induction l with
  | nil=>intro _ _;trivial
  | cons env r ih =>
   intro hs hl
   obtain ⟨hk,⟨L,o,hf,hn,ho,hd⟩,hr⟩:=hl
   have hL:L∈X.fs:=hs L (by unfold frs;rw [List.filterMap_cons,hf];exact List.mem_cons_self)
   obtain ⟨sl,e⟩:=I.base.slot L o ho (I.ok.frf L hL) hL fun z=>I.ok.exfs L z hL
   exact ⟨hk,⟨L,_,hf,hn,e,hd⟩,ih (fun b hb=>hs b (by unfold frs;rw [List.filterMap_cons,hf];exact List.mem_cons_of_mem _ hb)) hr⟩
 exact all X.outer (fun _ hb=>hb) I.ok.funs
theorem Inv.stack (I:Inv X pins σ H s):s.heap.FunFrames X.base X.stack:=by
 rcases I.ok.stk with e | ⟨e,hf⟩
 ·rw [e];exact I.funs
 ·rw [e]
  obtain ⟨m,hn,_⟩:=I.loc
  refine .cons (by rw [I.ok.kind];decide) hf hn ?_ I.funs
  exact Heap.get?_none_of_le (Nat.le_trans I.ok.bsz I.ok.above)
theorem Inv.stkSub (I:Inv X pins σ H s):∀ b∈frs X.stack,b∈X.env.locals :: X.fs:=fun b hb=>by
 rcases I.ok.stk with e | ⟨e,hf⟩
 ·rw [e] at hb;exact List.mem_cons_of_mem _ hb
 ·rw [e] at hb
  unfold frs at hb
  rw [List.filterMap_cons,hf] at hb
  exact hb
theorem Inv.stkFree (I:Inv X pins σ H s):∀ b∈frs X.stack,H b=none:=fun b hb=>by
 rcases List.mem_cons.mp (I.stkSub b hb) with e | hb
 ·rw [e];exact I.free
 ·obtain ⟨_,o,ho,_⟩:=I.ok.funs.mem hb
  exact I.base.free b o ho (I.ok.frf b hb) fun z=>I.ok.exfs b z hb
theorem Inv.step {g':Array GenState} {t':Nat} {d':Drawn} {ch:List Addr} (I:Inv X pins σ H s)
  (hch:∀ b∈ch,(b∈X.ex∨X.s₀.heap.objs.size≤b)∧b≠X.env.locals∧(∀ x c,X.env.cells.lookup x=some c→c≠b)∧∀ p∈X.pn++pins,p.1≠b)
  (keep:∀ b o,b≠X.env.locals→b∉X.fs→b∉ch→s.heap.get? b=some o→H b=none→h'.get? b=some o)
  (slot:∀ b o,b≠X.env.locals→b∈X.fs→b∉ch→s.heap.get? b=some o→H b=none→∃ sl,h'.get? b=some { o with slots:=sl }) (free:∀ b o,b∉ch→s.heap.get? b=some o→H b=none→H' b=none)
  (there:∀ b o,b∉ch→s.heap.get? b=some o→∃ o',h'.get? b=some o')
  (tups:∀ b xs,H b=some (.tup xs)→H' b=some (.tup xs)) (frzs:∀ b o u,H b=some (.frz o u)→H' b=some (.frz o u)) (tbls:∀ b ps,H b=some (.tbl ps)→∃ more,H' b=some (.tbl (ps++more)))
  (ns:∀ m,s.heap.Ns X.env.locals m→h'.Ns X.env.locals m) (hok:HOk X.prog X.w H' h') (hg:AllBare g') :
  Inv X pins σ H' { s with heap:=h',gens:=g',drawn:=d',toks:=t' }:=by
 have neL:∀ b o,X.s₀.heap.get? b=some o→b≠X.env.locals:=fun b o e=>Nat.ne_of_lt (Nat.lt_of_lt_of_le (Heap.lt_size e) I.ok.above)
 have neC:∀ b o,X.s₀.heap.get? b=some o→b∉X.ex→b∉ch:=fun b o e hx hb=>by
  rcases (hch b hb).1 with z | z
  ·exact hx z
  ·exact absurd (Nat.lt_of_lt_of_le (Heap.lt_size e) z) (Nat.lt_irrefl _)
 have cellK:∀ x c,X.env.cells.lookup x=some c→∀ v,s.heap.IsCell c v→h'.IsCell c v:=fun x c e v ⟨o,ho,hd⟩=>by
  have nch:c∉ch:=fun z=>(hch c z).2.2.1 x c e rfl
  by_cases hc:c∈X.fs
  ·obtain ⟨sl,q⟩:=slot c o (I.cne x c e) hc nch ho (I.freeC x c e)
   exact ⟨_,q,hd⟩
  ·exact ⟨o,keep c o (I.cne x c e) hc nch ho (I.freeC x c e),hd⟩
 refine ⟨I.ok,I.os,hg,⟨fun b o e n hb hx=>?_,fun b o e n hb hx=>?_,fun b o e n hx=>?_,fun b o e hx=>?_,fun b xs e=>tups b xs (I.base.tups b xs e),fun b o xs e=>frzs b o xs (I.base.frzs b o xs e),fun b ps e=>?_⟩,?_,fun x c e=>?_,?_,fun x c e=>?_,fun p hp=>?_,hok,I.len⟩
 ·exact keep b o (neL b o e) hb (neC b o e hx) (I.base.keep b o e n hb hx) (I.base.free b o e n hx)
 ·obtain ⟨sl,e1⟩:=I.base.slot b o e n hb hx
  obtain ⟨sl',e2⟩:=slot b _ (neL b o e) hb (neC b o e hx) e1 (I.base.free b o e n hx)
  exact ⟨sl',e2⟩
 ·obtain ⟨o',e1⟩:=I.base.there b o e hx
  exact free b o' (neC b o e hx) e1 (I.base.free b o e n hx)
 ·obtain ⟨o',e1⟩:=I.base.there b o e hx
  exact there b o' (neC b o e hx) e1
 ·obtain ⟨m1,e1⟩:=I.base.tbls b ps e
  obtain ⟨m2,e2⟩:=tbls b _ e1
  exact ⟨m1++m2,by rw [e2,Array.append_assoc]⟩
 ·obtain ⟨m,hn,hl⟩:=I.loc
  refine ⟨m,ns m hn,fun i x v e1 e2 e3=>?_⟩
  obtain ⟨u,r,l⟩:=hl i x v e1 e2 e3
  refine ⟨u,r,?_⟩
  rcases l with l | ⟨k,c,e,z⟩
  ·exact .inl l
  ·exact .inr ⟨k,c,e,cellK x c e _ z⟩
 ·obtain ⟨v,z⟩:=I.cell x c e
  exact ⟨v,cellK x c e v z⟩
 ·obtain ⟨m,⟨o,_,_,ho,_⟩,_⟩:=I.loc
  exact free _ o (fun z=>(hch _ z).2.1 rfl) ho I.free
 ·obtain ⟨v,o,ho,hd⟩:=I.cell x c e
  exact free c o (fun z=>(hch c z).2.2.1 x c e rfl) ho (I.freeC x c e)
 ·obtain ⟨e,n,ne,nf,d⟩:=I.pin p hp
  have nch:p.1∉ch:=fun z=>(hch p.1 z).2.2.2 p hp rfl
  exact ⟨keep p.1 p.2 ne nf nch e n,free p.1 p.2 nch e n,ne,nf,d⟩
theorem Inv.un {t':Nat} (I:Inv X pins σ H s) (u:Un X.fs [] H H' s.heap h') (hok:HOk X.prog X.w H' h'):Inv X pins σ H' { s with heap:=h',toks:=t' }:=by
 obtain ⟨m,⟨o,es,ep,ho,r⟩,_⟩:=id I.loc
 obtain ⟨sl,hL⟩:=u.any ho I.free (by simp)
 exact I.step (g':=s.gens) (d':=s.drawn) (ch:=[]) (fun _ z=>nomatch z) (fun b o _ hb _ e n=>u.keep b o e n hb (by simp)) (fun b o _ hb _ e n=>u.slot b o e n hb (by simp)) (fun b o _ e n=>u.free b o e n (by simp)) (fun b o _ e=>u.there b o e (by simp)) u.tups u.frzs u.tbls (fun m' hm=>by
  obtain ⟨o',es',ep',ho',r'⟩:=hm
  rw [ho] at ho';cases ho'
  exact ⟨_,es',ep',hL,r'⟩) hok I.bare
theorem Inv.call {g':Array GenState} {t':Nat} {d':Drawn} {ch:List Addr} (I:Inv X pins σ H s) (u:Un (frs X.stack) ch H H' s.heap h') (hok:HOk X.prog X.w H' h') (hg:AllBare g')
  (hch:∀ b∈ch,(b∈X.ex∨X.s₀.heap.objs.size≤b)∧b≠X.env.locals∧(∀ x c,X.env.cells.lookup x=some c→c≠b)∧∀ p∈X.pn++pins,p.1≠b) :
  Inv X pins σ H' { s with heap:=h',gens:=g',drawn:=d',toks:=t' }:=by
 obtain ⟨m,⟨o,es,ep,ho,r⟩,_⟩:=id I.loc
 obtain ⟨sl,hL⟩:=u.any ho I.free fun z=>(hch _ z).2.1 rfl
 exact I.step (ch:=ch) hch (fun b o hL hb hc e n=>u.keep b o e n (fun z=>(List.mem_cons.mp (I.stkSub b z)).elim hL hb) hc) (fun b o _ _ hc e n=>u.any e n hc) (fun b o hc e n=>u.free b o e n hc) (fun b o hc e=>u.there b o e hc) u.tups u.frzs u.tbls (fun m' hm=>by
  obtain ⟨o',es',ep',ho',r'⟩:=hm
  rw [ho] at ho';cases ho'
  exact ⟨_,es',ep',hL,r'⟩) hok hg
theorem Inv.turned {t':Nat} {it:Addr} (I:Inv X pins σ H s) (k:∀ b o,b≠it→s.heap.get? b=some o→h'.get? b=some o) (hn:H it=none) (hL:it≠X.env.locals)
  (h1:it∈X.ex∨X.s₀.heap.objs.size≤it) (h2:∀ x c,X.env.cells.lookup x=some c→c≠it) (h3:∀ p∈X.pn++pins,p.1≠it):Inv X pins σ H { s with heap:=h',toks:=t' }:=by
 have nit:∀ b u,H b=some u→b≠it:=fun b u e z=>by rw [z,hn] at e;cases e
 refine I.step (g':=s.gens) (d':=s.drawn) (ch:=[it]) (fun b hb=>?_) (fun b o _ _ hc e _=>k b o (fun z=>hc (by simp [z])) e) (fun b o _ _ hc e _=>⟨o.slots,k b o (fun z=>hc (by simp [z])) e⟩) (fun _ _ _ _ n=>n)
  (fun b o hc e=>⟨o,k b o (fun z=>hc (by simp [z])) e⟩) (fun _ _ e=>e) (fun _ _ _ e=>e) (fun b ps e=>⟨#[],by rw [e];simp⟩) (fun m hm=>?_) (fun b u e=>?_) I.bare
 ·have e:b=it:=by simpa using hb
  subst e
  exact ⟨h1,hL,h2,h3⟩
 ·obtain ⟨o,es,ep,ho,r⟩:=hm
  exact ⟨o,es,ep,k _ o (Ne.symm hL) ho,r⟩
 ·refine (I.hok b u e).stay (fun c v hc q=>k c v ?_ q) (fun _ q=>q) fun _ _ q=>q
  rcases hc with z | z
  ·rw [z];exact nit b u e
  ·exact nit c _ z
theorem Inv.tok (I:Inv X pins σ H s) (t:Nat):Inv X pins σ H { s with toks:=t }:=I.un (h':=s.heap) (t':=t) Un.refl I.hok
theorem Inv.kept {t':Nat} (I:Inv X pins σ H s) (k:∀ b u,s.heap.get? b=some u→h'.get? b=some u):Inv X pins σ H { s with heap:=h',toks:=t' }:=I.un (Un.kept k) (I.hok.kept k)
theorem Inv.laid {a:Addr} {o:HO} {t':Nat} (I:Inv X pins σ H s) (k:∀ b u,s.heap.get? b=some u→h'.get? b=some u) (hp:s.heap.objs.size≤a) (new:ObjOk X.prog X.w (upd H a o) h' a o) :
  Inv X pins σ (upd H a o) { s with heap:=h',toks:=t' }:=I.un (Un.laid k hp (I.hok.fresh hp)) (I.hok.laid k hp new)
theorem Inv.write {x e:Addr} {o:HO} {t':Nat} (I:Inv X pins σ H s) (mu:Mut (H x)) (he:e=x∨H e=some (.own x)) (k:∀ b u,b≠e→s.heap.get? b=some u→h'.get? b=some u) (heo:∃ u,h'.get? e=some u)
  (new:ObjOk X.prog X.w (upd H x o) h' x o):Inv X pins σ (upd H x o) { s with heap:=h',toks:=t' }:=I.un (Un.write mu he k heo) (I.hok.write mu he k heo new)
theorem Inv.weak {σ':List (Option V)} (I:Inv X pins σ H s) (hl:σ'.length=σ.length) (w:∀ (i:Nat) v,σ'[i]?=some (some v)→σ[i]?=some (some v)):Inv X pins σ' H s :=
 ⟨I.ok,I.os,I.bare,I.base,let ⟨m,hn,hl'⟩:=I.loc;⟨m,hn,fun i x v e1 e2 e3=>hl' i x v e1 (w i v e2) e3⟩,I.cell,I.free,I.freeC,I.pin,I.hok,hl.trans I.len⟩
theorem Inv.pins_of {pins':List (Addr×Obj)} (I:Inv X pins σ H s) (h:∀ p∈pins',s.heap.get? p.1=some p.2∧H p.1=none∧p.1≠X.env.locals∧p.1∉X.fs∧∀ v,p.2.data≠.cell v):Inv X pins' σ H s :=
 ⟨I.ok,I.os,I.bare,I.base,I.loc,I.cell,I.free,I.freeC,fun p hp=>(List.mem_append.mp hp).elim (fun z=>I.pin p (List.mem_append_left _ z)) (h p),I.hok,I.len⟩
theorem nodup_ix {N:List Str} (hN:N.Nodup) {i j:Nat} {x:Str} (a:N[i]?=some x) (b:N[j]?=some x):i=j:=by
 obtain ⟨h1,e1⟩:=List.getElem?_eq_some_iff.mp a
 obtain ⟨h2,e2⟩:=List.getElem?_eq_some_iff.mp b
 exact (List.getElem_inj hN).mp (e1.trans e2.symm)
theorem store_ok2 {M:Model} {A:Around} {E:Value→Shared→Prop} {i:Nat} {x:Str} {v:V} {u:Value} {Q:Unit→Shared→Prop} (I:Inv X pins σ H s) (hN:X.N.Nodup) (hi:X.N[i]?=some x) (hx:Loc X.env.scope x) (r:RelV v u)
  (h:∀ s',Inv X pins (σ.set i (some v)) H s'→(∃ a,Heap.SameBut a s.heap s'.heap∧(a=X.env.locals∨X.env.cells.lookup x=some a))→Q () s') (hf:X.fn x=true∨X.env.scope.names.lookup x=some .local:=by first | exact .inl rfl | exact .inr rfl | assumption):wpAny M A (storeName X.env x u) Q E s:=by
 obtain ⟨m,hn,hl⟩:=id I.loc
 have hcls:(X.env.scope.kind == .class || (X.env.scope.kind == .module && X.env.locals != X.env.globals))=false:=by rw [I.ok.kind];rfl
 have hiσ:i < σ.length:=by rw [I.len];exact (List.getElem?_eq_some_iff.mp hi).1
 have cne:=I.cne
 have tracked:∀ {a:Addr} {h':Heap},(∃ o,s.heap.get? a=some o∧H a=none)→Heap.SameBut a s.heap h'→HOk X.prog X.w H h':=fun {a h'} ha hs b ob e=>by
  obtain ⟨_,_,hfree⟩:=ha
  refine (I.hok b ob e).stay (fun c w' hc q=>(hs.2 c ?_).trans q) (fun _ q=>q) fun _ _ q=>q
  rintro rfl
  rcases hc with rfl | hc
  ·rw [hfree] at e;cases e
  ·rw [hfree] at hc;cases hc
 rcases hx with hk | hk
 ·refine wpAny_storeName_local hk hn (fun h' hn' hs=>?_) hcls
  obtain ⟨oL,_,_,hoL,_⟩:=id hn
  refine h _ ⟨I.ok,I.os,I.bare,⟨fun b o e n hb hx=>?_,fun b o e n hb hx=>?_,I.base.free,fun b o e hx=>?_,I.base.tups,I.base.frzs,I.base.tbls⟩,⟨_,hn',fun j y v' e1 e2 e3=>?_⟩,fun y c e=>?_,I.free,I.freeC,fun p hp=>?_,tracked ⟨oL,hoL,I.free⟩ hs,by simpa using I.len⟩ ⟨_,hs,.inl rfl⟩
  ·exact (hs.2 b (Nat.ne_of_lt (Nat.lt_of_lt_of_le (Heap.lt_size e) I.ok.above))).trans (I.base.keep b o e n hb hx)
  ·obtain ⟨sl,e1⟩:=I.base.slot b o e n hb hx
   exact ⟨sl,(hs.2 b (Nat.ne_of_lt (Nat.lt_of_lt_of_le (Heap.lt_size e) I.ok.above))).trans e1⟩
  ·obtain ⟨o',e1⟩:=I.base.there b o e hx
   exact ⟨o',(hs.2 b (Nat.ne_of_lt (Nat.lt_of_lt_of_le (Heap.lt_size e) I.ok.above))).trans e1⟩
  ·by_cases hj:j=i
   ·subst hj
    rw [hi] at e1;cases e1
    rw [List.getElem?_set_self hiσ] at e2
    cases e2
    exact ⟨u,r,.inl ⟨hk,by simp⟩⟩
   ·rw [List.getElem?_set_ne (Ne.symm hj)] at e2
    obtain ⟨u',r',q⟩:=hl j y v' e1 e2 e3
    refine ⟨u',r',?_⟩
    rcases q with ⟨k,e⟩ | ⟨k,c,e,z⟩
    ·refine .inl ⟨k,?_⟩
     have:y≠x:=fun e=>hj (nodup_ix hN e1 (e ▸ hi))
     simp [this,e]
    ·exact .inr ⟨k,c,e,z.sameBut hs (cne y c e)⟩
  ·obtain ⟨w',z⟩:=I.cell y c e
   exact ⟨w',z.sameBut hs (cne y c e)⟩
  ·obtain ⟨e,n,ne,nf,d⟩:=I.pin p hp
   exact ⟨(hs.2 p.1 ne).trans e,n,ne,nf,d⟩
 ·have hfn:X.fn x=true:=by
   rcases hf with z | z
   ·exact z
   ·rw [z] at hk;cases hk
  obtain ⟨c,hc⟩:=I.ok.has x (.inl hk)
  obtain ⟨w',z⟩:=I.cell x c hc
  refine wpAny_storeName_cell I.ok.kind hk hc z (fun h' hc' hs=>?_)
  obtain ⟨oc,hoc,hocd⟩:=id z
  refine h { s with heap:=h' } ⟨I.ok,I.os,I.bare,⟨fun b o e n hb hx=>?_,fun b o e n hb hx=>?_,I.base.free,fun b o e hx=>?_,I.base.tups,I.base.frzs,I.base.tbls⟩,⟨m,hn.sameBut hs (Ne.symm (cne x c hc)),fun j y v' e1 e2 e3=>?_⟩,fun y c' e=>?_,I.free,I.freeC,fun p hp=>?_,tracked ⟨oc,hoc,I.freeC x c hc⟩ hs,by simpa using I.len⟩ ⟨c,hs,.inr hc⟩
  ·exact (hs.2 b (Nat.ne_of_lt (Nat.lt_of_lt_of_le (Heap.lt_size e) (I.ok.cab x c hfn hc)))).trans (I.base.keep b o e n hb hx)
  ·obtain ⟨sl,e1⟩:=I.base.slot b o e n hb hx
   exact ⟨sl,(hs.2 b (Nat.ne_of_lt (Nat.lt_of_lt_of_le (Heap.lt_size e) (I.ok.cab x c hfn hc)))).trans e1⟩
  ·obtain ⟨o',e1⟩:=I.base.there b o e hx
   exact ⟨o',(hs.2 b (Nat.ne_of_lt (Nat.lt_of_lt_of_le (Heap.lt_size e) (I.ok.cab x c hfn hc)))).trans e1⟩
  ·by_cases hj:j=i
   ·subst hj
    rw [hi] at e1;cases e1
    rw [List.getElem?_set_self hiσ] at e2
    cases e2
    exact ⟨u,r,.inr ⟨.inl hk,c,hc,hc'⟩⟩
   ·rw [List.getElem?_set_ne (Ne.symm hj)] at e2
    obtain ⟨u',r',q⟩:=hl j y v' e1 e2 e3
    refine ⟨u',r',?_⟩
    rcases q with q | ⟨k,c',e,z'⟩
    ·exact .inl q
    ·refine .inr ⟨k,c',e,z'.sameBut hs ?_⟩
     rintro rfl
     exact hj (nodup_ix hN e1 (I.ok.inj _ _ _ e hc ▸ hi))
  ·by_cases hcc:c'=c
   ·subst hcc;exact ⟨_,hc'⟩
   ·obtain ⟨w2,z2⟩:=I.cell y c' e
    exact ⟨w2,z2.sameBut hs hcc⟩
  ·obtain ⟨e,n,ne,nf,d⟩:=I.pin p hp
   refine ⟨(hs.2 p.1 ?_).trans e,n,ne,nf,d⟩
   intro q
   rw [q,hoc] at e
   have q':oc=p.2:=Option.some.inj e
   exact d w' (by rw [← q'];exact hocd)
theorem store_ok {M:Model} {A:Around} {E:Value→Shared→Prop} {i:Nat} {x:Str} {v:V} {u:Value} {Q:Unit→Shared→Prop} (I:Inv X pins σ H s) (hN:X.N.Nodup) (hi:X.N[i]?=some x) (hx:Loc X.env.scope x) (r:RelV v u)
  (h:∀ s',Inv X pins (σ.set i (some v)) H s'→Q () s') (hf:X.fn x=true∨X.env.scope.names.lookup x=some .local:=by first | exact .inl rfl | exact .inr rfl | assumption):wpAny M A (storeName X.env x u) Q E s :=
 store_ok2 I hN hi hx r (fun s' I' _=>h s' I') hf
theorem Inv.call' {s':Shared} {ch:List Addr} (I:Inv X pins σ H s) (ho:s'.os=s.os) (u:Un (frs X.stack) ch H H' s.heap s'.heap) (hok:HOk X.prog X.w H' s'.heap) (hg:AllBare s'.gens)
  (hch:∀ b∈ch,(b∈X.ex∨X.s₀.heap.objs.size≤b)∧b≠X.env.locals∧(∀ x c,X.env.cells.lookup x=some c→c≠b)∧∀ p∈X.pn++pins,p.1≠b):Inv X pins σ H' s':=by
 obtain ⟨h',g',d',t',o'⟩:=s'
 have e:o'=s.os:=ho
 subst e
 exact I.call (g':=g') (t':=t') (d':=d') u hok hg hch
end
abbrev XK:=Value→Option Addr→Hp→Prop
abbrev St:=List (Option V)
abbrev VK:=V→Hp→Prop
abbrev TE:=St→Hp→VK→Prop
abbrev TT:=St→Hp→(Bool→Hp→Prop)→Prop
abbrev TA:=St→Hp→(List V→Hp→Prop)→Prop
structure Ends where
 nx:St→Hp→Prop
 rt:VK
 bk:St→Hp→Prop:=fun _ _=>False
 ct:St→Hp→Prop:=fun _ _=>False
abbrev TS:=Ends→St→Hp→Prop
def EP (X:Cx) (pins:List (Addr×Obj)) (σ:St) (Q:VK) (u:Value) (s':Shared):Prop:=∃ v H',Inv X pins σ H' s'∧RelV v u∧Q v H'
def TP (X:Cx) (pins:List (Addr×Obj)) (σ:St) (Q:Bool→Hp→Prop) (b:Bool) (s':Shared):Prop:=∃ H',Inv X pins σ H' s'∧Q b H'
def AP (X:Cx) (pins:List (Addr×Obj)) (σ:St) (Q:List V→Hp→Prop) (us:List Value) (s':Shared):Prop:=∃ vs H',Inv X pins σ H' s'∧Vals vs us∧Q vs H'
def SP (X:Cx) (pins:List (Addr×Obj)) (D:Ends) (f:Flow) (s':Shared):Prop :=
 match f with
 | .next=>∃ σ' H',Inv X pins σ' H' s'∧D.nx σ' H'
 | .brk=>∃ σ' H',Inv X pins σ' H' s'∧D.bk σ' H'
 | .cont=>∃ σ' H',Inv X pins σ' H' s'∧D.ct σ' H'
 | .ret u=>∃ v σ' H',Inv X pins σ' H' s'∧RelV v u∧D.rt v H'
def PE (X:Cx) (e:Expr) (t:TE):Prop :=
 ∀ (pins:List (Addr×Obj)) (s:Shared) (σ:St) (H:Hp) (Q:VK),Inv X pins σ H s→t σ H Q→wpAny (model X.prog X.w) X.A (eval e X.env) (EP X pins σ Q) X.xe s
def PT (X:Cx) (e:Expr) (t:TT):Prop :=
 ∀ (pins:List (Addr×Obj)) (s:Shared) (σ:St) (H:Hp) (Q:Bool→Hp→Prop),Inv X pins σ H s→t σ H Q→wpAny (model X.prog X.w) X.A (isTrue e X.env (eval e X.env)) (TP X pins σ Q) X.xe s
def PW (X:Cx) (e:Expr) (t:TT):Prop :=
 ∀ (whole:Sem Value) (pins:List (Addr×Obj)) (s:Shared) (σ:St) (H:Hp) (Q:Bool→Hp→Prop),Inv X pins σ H s→t σ H Q→wpAny (model X.prog X.w) X.A (isTrue e X.env whole) (TP X pins σ Q) X.xe s
theorem PW.pt {X:Cx} {e:Expr} {t:TT} (h:PW X e t):PT X e t:=h _
def PA (X:Cx) (es:List Expr) (t:TA):Prop :=
 ∀ (pos:Pos) (pins:List (Addr×Obj)) (s:Shared) (σ:St) (H:Hp) (Q:List V→Hp→Prop),Inv X pins σ H s→t σ H Q→wpAny (model X.prog X.w) X.A (spliced (backTo pos (starEach es X.env))) (AP X pins σ Q) X.xe s
def PS (X:Cx) (st:Stmt) (t:TS):Prop :=
 ∀ (pins:List (Addr×Obj)) (s:Shared) (σ:St) (H:Hp) (D:Ends),Inv X pins σ H s→t D σ H→wpAny (model X.prog X.w) X.A (exec st X.env) (SP X pins D) X.xe s
def PSs (X:Cx) (st:List Stmt) (t:TS):Prop :=
 ∀ (pins:List (Addr×Obj)) (s:Shared) (σ:St) (H:Hp) (D:Ends),Inv X pins σ H s→t D σ H→wpAny (model X.prog X.w) X.A (execs st X.env) (SP X pins D) X.xe s
theorem thn {α:Type} {t:Sem α} {Q Q':α→Shared→Prop} {M:Model} {A:Around} {E:Value→Shared→Prop} {s:Shared} (h:wpAny M A t Q E s) (hQ:∀ a s,Q a s→Q' a s):wpAny M A t Q' E s:=wpAny_mono h hQ fun _ _ x=>x
end L2
namespace L2
open PySem PySem.Spec PyProof.Rows
section
variable {X:Cx}
def tVar (i:Nat):TE:=fun σ H Q=>∃ v,σ[i]?=some (some v)∧Q v H
def tC (v:V):TE:=fun _ H Q=>Q v H
theorem pe_var {i:Nat} {x:Str} {pos:Pos} (hN:X.N[i]?=some x) (hv:Vis X.env.scope x) (hd:(x == ("__debug__":Str))=false:=by decide) (hcd:(x == ("__classdict__":Str))=false:=by decide):PE X (.Name x pos) (tVar i):=by
 intro pins s σ H Q I h
 obtain ⟨v,e,h⟩:=h
 obtain ⟨m,hn,hl⟩:=I.loc
 obtain ⟨u,r,l⟩:=hl i x v hN e hv
 have fin:EP X pins σ Q u s:=⟨v,H,I,r,h⟩
 rcases l with ⟨hk,hm⟩ | ⟨hk,c,hc,hcell⟩
 ·exact wpAny_Name (wpAny_loadName_local I.ok.kind hk hn hm fin) hd
 ·rcases hk with hk | hk
  ·exact wpAny_Name (wpAny_loadName_cell I.ok.kind hk hc hcell fin) hd
  ·exact wpAny_Name (wpAny_loadName_free I.ok.kind hk hc hcell fin hcd) hd
theorem pe_int {i j pos}:PE X (.Constant (.int i) j pos) (tC (.int i)):=fun _ _ _ H _ I h=>wpAny_Constant_int ⟨.int i,H,I.tok _,⟨_,rfl⟩,h⟩
theorem pe_bl {b j pos}:PE X (.Constant (.bool b) j pos) (tC (.bl b)):=fun _ _ _ H _ I h=>Constant_bool ⟨.bl b,H,I,rfl,h⟩
theorem pe_non {j pos}:PE X (.Constant .none j pos) (tC .non):=fun _ _ _ H _ I h=>Constant_none ⟨.non,H,I,rfl,h⟩
theorem pe_str {x j pos}:PE X (.Constant (.str x) j pos) (tC (.str x)):=fun _ _ _ H _ I h=>Calls.Constant_str ⟨.str x,H,I.tok _,⟨_,rfl⟩,h⟩
def Gl (X:Cx) (x:Str):Prop:=X.env.kindOf x=some .globalImplicit
theorem ld_glob {E:Value→Shared→Prop} {pins:List (Addr×Obj)} {s:Shared} {σ:St} {H:Hp} {x:Str} {u:Value} {pos:Pos} {Q:Value→Shared→Prop} (I:Inv X pins σ H s) (hg:Gl X x) (hm:X.mg x=some u) (h:Q u s)
  (hd:(x == ("__debug__":Str))=false:=by decide):wpAny (model X.prog X.w) X.A (eval (.Name x pos) X.env) Q E s :=
 Calls.Name_function_global I.ok.kind hg (Calls.loadGlobal_global (by rw [I.ok.glob];exact I.mod.glob.keeps I.bk) hm h) hd
theorem ld_blt {E:Value→Shared→Prop} {pins:List (Addr×Obj)} {s:Shared} {σ:St} {H:Hp} {x:Str} {u:Value} {pos:Pos} {Q:Value→Shared→Prop} (I:Inv X pins σ H s) (hg:Gl X x) (hm:X.mg x=none) (hv:bootBuiltins x=some u) (h:Q u s)
  (hn:x≠"__name__":=by decide) (hd:(x == ("__debug__":Str))=false:=by decide):wpAny (model X.prog X.w) X.A (eval (.Name x pos) X.env) Q E s:=by
 obtain ⟨mb,h1,h2⟩:=I.mod.blt
 exact Calls.Name_function_global I.ok.kind hg (Calls.loadGlobal_builtin (by rw [I.ok.glob];exact I.mod.glob.keeps I.bk) hm (by rw [I.ok.blt];exact h1.keeps I.bk) ((h2 x hn).trans hv) h) hd
theorem pe_glob {x:Str} {v:V} {u:Value} {pos:Pos} (hg:Gl X x) (hm:X.mg x=some u) (r:RelV v u) (hd:(x == ("__debug__":Str))=false:=by decide):PE X (.Name x pos) (tC v) :=
 fun _ _ _ H _ I h=>ld_glob I hg hm ⟨v,H,I,r,h⟩ hd
theorem pe_bltn {x:Str} {v:V} {u:Value} {pos:Pos} (hg:Gl X x) (hm:X.mg x=none) (hv:bootBuiltins x=some u) (r:RelV v u) (hn:x≠"__name__":=by decide) (hd:(x == ("__debug__":Str))=false:=by decide):PE X (.Name x pos) (tC v) :=
 fun _ _ _ H _ I h=>ld_blt I hg hm hv ⟨v,H,I,r,h⟩ hn hd
variable {a b:Expr} {ta tb:TE} {pos:Pos}
def PC (X:Cx) (op:CmpOp) (a b:Expr) (t:TE):Prop :=
 ∀ (pins:List (Addr×Obj)) (s:Shared) (σ:St) (H:Hp) (Q:VK),Inv X pins σ H s→t σ H Q →
  wpAny (model X.prog X.w) X.A (eval a X.env) (fun v s₁=>wpAny (model X.prog X.w) X.A (eval b X.env) (fun u s₂=>wpAny (model X.prog X.w) X.A (compareOp op v u) (EP X pins σ Q) X.xe s₂) X.xe s₁) X.xe s
def tB (t:TE):TT:=fun σ H Q=>t σ H fun x H1=>∃ c,x=.bl c∧Q c H1
theorem pt_cmp {op:CmpOp} {t:TE} (h:PC X op a b t) (h1:behindInMarks op b=false:=by first | exact nobehind _ (by decide) (by decide) | rfl):PT X (.Compare a [op] [b] pos) (tB t):=by
 intro pins s σ H Q I hw
 refine wpAny_isTrue_Compare1 (thn (h pins s σ H _ I hw) fun v s1 h1=>thn h1 fun u s2 h2=>thn h2 fun c s3 ⟨x,H1,I1,r1,q1⟩=>?_) h1
 obtain ⟨d,rfl,q⟩:=q1
 cases r1
 exact wpAny_truthy_bool ⟨H1,I1,q⟩
theorem pt_val {e:Expr} {t:TE} (h:PE X e t) (he:∀ whole,isTrue e X.env whole=(do let v ← whole;standAt e.pos;holding [v] (truthy v)):=by intro _;rfl):PT X e (tB t):=by
 intro pins s σ H Q I hw
 refine isTrue_plain (thn (h pins s σ H _ I hw) fun v s1 ⟨x,H1,I1,r1,q1⟩=>?_) (he _)
 obtain ⟨d,rfl,q⟩:=q1
 cases r1
 exact wpAny_truthy_bool ⟨H1,I1,q⟩
variable {tA tB':TT} {rest:List Expr}
def tAnd (t u:TT):TT:=fun σ H Q=>t σ H fun c H1=>if c=true then u σ H1 Q else Q false H1
def tOr (t u:TT):TT:=fun σ H Q=>t σ H fun c H1=>if c=true then Q true H1 else u σ H1 Q
def tNot (t:TT):TT:=fun σ H Q=>t σ H fun c H1=>Q (!c) H1
theorem pw_and1 (ha:PT X a tA):PW X (.BoolOp .And [a] pos) tA:=by
 intro wh pins s σ H Q I h
 refine isTrue_and (thn (ha pins s σ H Q I h) fun c s1 e=>?_)
 cases c with
 | true=>exact isTrue_and_nil e
 | false=>exact e
theorem pw_or1 (ha:PT X a tA):PW X (.BoolOp .Or [a] pos) tA:=by
 intro wh pins s σ H Q I h
 refine isTrue_or (thn (ha pins s σ H Q I h) fun c s1 e=>?_)
 cases c with
 | false=>exact isTrue_or_nil e
 | true=>exact e
theorem pw_and (ha:PT X a tA) (hb:PW X (.BoolOp .And (b :: rest) pos) tB'):PW X (.BoolOp .And (a :: b :: rest) pos) (tAnd tA tB'):=by
 intro wh pins s σ H Q I h
 refine isTrue_and (thn (ha pins s σ H _ I h) fun c s1 ⟨H1,I1,q1⟩=>?_)
 cases c with
 | true=>exact hb wh pins s1 σ H1 Q I1 q1
 | false=>exact ⟨H1,I1,q1⟩
theorem pw_or (ha:PT X a tA) (hb:PW X (.BoolOp .Or (b :: rest) pos) tB'):PW X (.BoolOp .Or (a :: b :: rest) pos) (tOr tA tB'):=by
 intro wh pins s σ H Q I h
 refine isTrue_or (thn (ha pins s σ H _ I h) fun c s1 ⟨H1,I1,q1⟩=>?_)
 cases c with
 | true=>exact ⟨H1,I1,q1⟩
 | false=>exact hb wh pins s1 σ H1 Q I1 q1
theorem pt_not (ha:PT X a tA):PT X (.UnaryOp .Not a pos) (tNot tA):=by
 intro pins s σ H Q I h
 exact isTrue_not (ha pins s σ H (fun c H1=>Q (!c) H1) I h)
def tAndV (ta tb:TE):TE:=fun σ H Q=>ta σ H fun x H1=>∃ c,x=.bl c∧if c=true then tb σ H1 Q else Q (.bl false) H1
def tNotV (ta:TE):TE:=fun σ H Q=>ta σ H fun x H1=>∃ c,x=.bl c∧Q (.bl (!c)) H1
theorem pe_one {op} {t:TE} (h:PE X a t):PE X (.BoolOp op [a] pos) t:=fun pins s σ H Q I hw=>BoolOp_one (h pins s σ H Q I hw)
theorem pe_and (ha:PE X a ta) (hb:PE X (.BoolOp .And (b :: rest) pos) tb):PE X (.BoolOp .And (a :: b :: rest) pos) (tAndV ta tb):=by
 intro pins s σ H Q I h
 refine BoolOp_and (thn (ha pins s σ H _ I h) fun v s1 ⟨x,H1,I1,r1,q1⟩=>?_)
 obtain ⟨c,rfl,q1⟩:=q1
 cases r1
 refine wpAny_truthy_bool ?_
 cases c with
 | true=>exact hb pins s1 σ H1 Q I1 q1
 | false=>exact ⟨.bl false,H1,I1,rfl,q1⟩
theorem pe_not (ha:PE X a ta):PE X (.UnaryOp .Not a pos) (tNotV ta):=by
 intro pins s σ H Q I h
 refine UnaryOp_ (thn (ha pins s σ H _ I h) fun v s1 ⟨x,H1,I1,r1,q1⟩=>?_)
 obtain ⟨c,rfl,q1⟩:=q1
 cases r1
 exact not_of (wpAny_truthy_bool ⟨.bl (!c),H1,I1,rfl,q1⟩)
end
end L2
namespace L2
open PySem PySem.Spec PyProof.Rows
def SqL (K:PySem.W.Frag) (H:Hp) (a:Addr) (xs:List V):Prop :=
 Rd H a (.lst xs) ∨
  ∃ (o:Obj) (its:Array Value) (n:Nat),K.lookup a=some o∧o.cls=.type "list"∧o.dict=none∧o.data=.seq its n∧its.size≤sizeLine∧Vals xs its.toList
def SqT (K:PySem.W.Frag) (H:Hp) (a:Addr) (xs:List V):Prop :=
 Rd H a (.tup xs) ∨
  ∃ (o:Obj) (its:Array Value) (n:Nat),K.lookup a=some o∧o.cls=.type "tuple"∧o.data=.seq its n∧its.size≤sizeLine∧Vals xs its.toList
def absV:Value→Option V
 | .none=>some .non
 | .bool b=>some (.bl b)
 | .int i _=>some (.int i)
 | .str x _=>some (.str x)
 | .bytes b _=>some (.byt b)
 | .float b _=>some (.flt b)
 | .ref a=>some (.ref a)
 | .type n=>some (.ty n)
 | _=>none
theorem RelV.abs {x:V} {u:Value} (r:RelV x u):absV u=some x:=by
 cases x with
 | non=>cases r;rfl
 | bl _=>cases r;rfl
 | int _=>obtain ⟨t,rfl⟩:=r;rfl
 | str _=>obtain ⟨t,rfl⟩:=r;rfl
 | byt _=>obtain ⟨t,rfl⟩:=r;rfl
 | flt _=>obtain ⟨t,rfl⟩:=r;rfl
 | ref _=>cases r;rfl
 | ty _=>cases r;rfl
theorem RelV.inj {x y:V} {u:Value} (r:RelV x u) (q:RelV y u):x=y:=Option.some.inj (r.abs.symm.trans q.abs)
theorem Vals.inj:∀ {xs ys:List V} {us:List Value},Vals xs us→Vals ys us→xs=ys
 | _,_,_,.nil,.nil=>rfl
 | _,_,_,.cons r t,.cons r' t'=>by rw [r.inj r',Vals.inj t t']
section
variable {X:Cx} {pins:List (Addr×Obj)} {σ:St} {H:Hp} {s:Shared} {a:Addr} {xs ys:List V}
theorem SqL.of {K:PySem.W.Frag} (h:H a=some (.lst xs)):SqL K H a xs:=.inl (.inl h)
theorem SqT.of {K:PySem.W.Frag} (h:H a=some (.tup xs)):SqT K H a xs:=.inl (.inl h)
theorem Inv.list (I:Inv X pins σ H s) (h:SqL X.K H a xs):∃ its:List Value,Vals xs its∧PlainL s.heap a its.toArray∧xs.length≤sizeLine:=by
 rcases h with h | ⟨o,its,n,hk,hc,hd,hs,hz,r⟩
 ·obtain ⟨z,its,n,r,e⟩:=h.ok I.hok
  exact ⟨its,r,⟨_,n,e,rfl,rfl,rfl⟩,z⟩
 ·refine ⟨its.toList,r,⟨o,n,I.kIn a o hk,hc,hd,by simpa using hs⟩,?_⟩
  have e:=r.length
  simp only [Array.length_toList] at e
  omega
theorem Inv.tuple (I:Inv X pins σ H s) (h:SqT X.K H a xs):∃ its:List Value,Vals xs its∧IsTup s.heap a its.toArray∧xs.length≤sizeLine:=by
 rcases h with h | ⟨o,its,n,hk,hc,hs,hz,r⟩
 ·obtain ⟨z,its,r,p⟩:=h.ok I.hok
  exact ⟨its,r,p,z⟩
 ·refine ⟨its.toList,r,⟨o,I.kIn a o hk,hc,n,by simpa using hs⟩,?_⟩
  have e:=r.length
  simp only [Array.length_toList] at e
  omega
theorem Inv.list_inj (I:Inv X pins σ H s) (h:SqL X.K H a xs) (h':SqL X.K H a ys):xs=ys:=by
 obtain ⟨its,r,⟨o,n,e,_,_,d⟩,_⟩:=I.list h
 obtain ⟨its',r',⟨o',n',e',_,_,d'⟩,_⟩:=I.list h'
 rw [e] at e';cases e'
 rw [d] at d'
 injection d' with d1 _
 have:its=its':=by simpa using congrArg Array.toList d1
 subst this
 exact r.inj r'
theorem Inv.tuple_inj (I:Inv X pins σ H s) (h:SqT X.K H a xs) (h':SqT X.K H a ys):xs=ys:=by
 obtain ⟨its,r,⟨o,e,_,n,d⟩,_⟩:=I.tuple h
 obtain ⟨its',r',⟨o',e',_,n',d'⟩,_⟩:=I.tuple h'
 rw [e] at e';cases e'
 rw [d] at d'
 injection d' with d1 _
 have:its=its':=by simpa using congrArg Array.toList d1
 subst this
 exact r.inj r'
end
abbrev Cx.wish (X:Cx) (E:Value→Shared→Prop):Cx:={ X with xe:=E }
abbrev Cx.nox (X:Cx):Cx:=X.wish fun _ _=>False
theorem Cx.Ok.wish {X:Cx} (ok:X.Ok) (E:Value→Shared→Prop):(X.wish E).Ok :=
 ⟨ok.mod,ok.kind,ok.glob,ok.blt,ok.above,ok.inj,ok.has,ok.cab,ok.hd,ok.frames,ok.stk,ok.exf,ok.bs,ok.bsz,ok.noex,ok.exfs,ok.funs,ok.frf⟩
theorem Cx.Ok.unwish {X:Cx} {E:Value→Shared→Prop} (ok:(X.wish E).Ok):X.Ok :=
 ⟨ok.mod,ok.kind,ok.glob,ok.blt,ok.above,ok.inj,ok.has,ok.cab,ok.hd,ok.frames,ok.stk,ok.exf,ok.bs,ok.bsz,ok.noex,ok.exfs,ok.funs,ok.frf⟩
section
variable {X:Cx} {pins:List (Addr×Obj)} {σ:St} {H:Hp} {s:Shared} {E:Value→Shared→Prop}
theorem Inv.wish (I:Inv X pins σ H s) (E:Value→Shared→Prop):Inv (X.wish E) pins σ H s:=⟨I.ok.wish E,I.os,I.bare,I.base,I.loc,I.cell,I.free,I.freeC,I.pin,I.hok,I.len⟩
theorem Inv.unwish (I:Inv (X.wish E) pins σ H s):Inv X pins σ H s:=⟨I.ok.unwish,I.os,I.bare,I.base,I.loc,I.cell,I.free,I.freeC,I.pin,I.hok,I.len⟩
theorem SP.unwish {D:Ends} {f:Flow} {s':Shared} (h:SP (X.wish E) pins D f s'):SP X pins D f s':=by
 cases f with
 | next=>obtain ⟨σ',H',I,q⟩:=h;exact ⟨σ',H',I.unwish,q⟩
 | brk=>obtain ⟨σ',H',I,q⟩:=h;exact ⟨σ',H',I.unwish,q⟩
 | cont=>obtain ⟨σ',H',I,q⟩:=h;exact ⟨σ',H',I.unwish,q⟩
 | ret u=>obtain ⟨v,σ',H',I,r,q⟩:=h;exact ⟨v,σ',H',I.unwish,r,q⟩
theorem PSs.nox {st:List Stmt} {t:TS} (h:PSs X.nox st t):PSs X st t:=fun pins s σ H D I hw =>
 wpAny_mono (h pins s σ H D (I.wish _) hw) (fun _ _ q=>q.unwish) fun _ _ z=>False.elim z
end
section
variable {X:Cx} {st:Stmt} {rest:List Stmt} {t u:TS} {e:Expr} {te:TE} {pos:Pos}
def tNext:TS:=fun D σ H=>D.nx σ H
def tSeq (t u:TS):TS:=fun D σ H=>t { D with nx:=u D } σ H
theorem pss_nil:PSs X [] tNext:=fun _ _ σ H _ I h=>wpAny_execs_nil ⟨σ,H,I,h⟩
theorem pss_cons (h1:PS X st t) (h2:PSs X rest u):PSs X (st :: rest) (tSeq t u):=by
 intro pins s σ H D I h
 refine wpAny_execs_cons (thn (h1 pins s σ H { D with nx:=u D } I h) fun f s1 q=>?_)
 cases f with
 | next =>
  obtain ⟨σ',H',I',q⟩:=q
  exact h2 pins s1 σ' H' D I' q
 | ret v=>exact q
 | brk=>exact q
 | cont=>exact q
theorem pss_one (h1:PS X st t):PSs X [st] t:=by
 intro pins s σ H D I h
 refine wpAny_execs_cons (thn (h1 pins s σ H D I h) fun f s1 q=>?_)
 cases f with
 | next=>exact wpAny_execs_nil q
 | ret v=>exact q
 | brk=>exact q
 | cont=>exact q
theorem Inv.quiet {pins:List (Addr×Obj)} {σ:St} {H:Hp} {s:Shared} (I:Inv X pins σ H s):interactive X.env=false:=by simp [interactive,I.ok.kind]
def tDrop (te:TE):TS:=fun D σ H=>te σ H fun _ H1=>D.nx σ H1
theorem ps_expr (he:PE X e te) (hs:swapsWith e none pos.line X.env=pure false:=by rfl):PS X (.Expr e pos) (tDrop te):=by
 intro pins s σ H D I h
 exact wpAny_Expr_any (thn (he pins s σ H _ I h) fun v s1 ⟨x,H1,I1,r1,q1⟩=>⟨σ,H1,I1,q1⟩) I.quiet hs
def tRet (te:TE):TS:=fun D σ H=>te σ H D.rt
theorem ps_ret (he:PE X e te):PS X (.Return (some e) pos) (tRet te):=by
 intro pins s σ H D I h
 exact wpAny_Return_some (thn (he pins s σ H _ I h) fun v s1 ⟨x,H1,I1,r1,q1⟩=>⟨x,σ,H1,I1,r1,q1⟩)
def tIfS (c:TT) (t u:TS):TS:=fun D σ H=>c σ H fun b H1=>if b=true then t D σ H1 else u D σ H1
theorem ps_if {c:Expr} {a b:List Stmt} {tc:TT} (hc:PT X c tc) (ha:PSs X a t) (hb:PSs X b u):PS X (.If c a b pos) (tIfS tc t u):=by
 intro pins s σ H D I h
 refine wpAny_If (thn (hc pins s σ H _ I h) fun d s1 ⟨H1,I1,q1⟩=>?_)
 cases d with
 | true=>exact ha pins s1 σ H1 D I1 q1
 | false=>exact hb pins s1 σ H1 D I1 q1
def tNever:TS:=fun _ _ _=>False
theorem ps_never:PS X st tNever:=fun _ _ _ _ _ _ h=>h.elim
end
abbrev TG:=V→St→Hp→(St→Hp→Prop)→Prop
abbrev TGs:=List V→St→Hp→(St→Hp→Prop)→Prop
def PG (X:Cx) (target:Expr) (t:TG):Prop :=
 ∀ (pins:List (Addr×Obj)) (s:Shared) (σ:St) (H:Hp) (v:V) (u:Value) (Q:St→Hp→Prop),Inv X pins σ H s→RelV v u→t v σ H Q →
  wpAny (model X.prog X.w) X.A (assign target X.env u) (fun _ s'=>∃ σ' H',Inv X pins σ' H' s'∧Q σ' H') X.xe s
def PGs (X:Cx) (ts:List Expr) (t:TGs):Prop :=
 ∀ (pins:List (Addr×Obj)) (s:Shared) (σ:St) (H:Hp) (vs:List V) (us:List Value) (Q:St→Hp→Prop),Inv X pins σ H s→Vals vs us→t vs σ H Q →
  wpAny (model X.prog X.w) X.A (assignInOrder ((assignEach ts X.env).map (·.2)) us) (fun _ s'=>∃ σ' H',Inv X pins σ' H' s'∧Q σ' H') X.xe s
section
variable {X:Cx} {pos:Pos}
def gName (i:Nat):TG:=fun v σ H Q=>Q (σ.set i (some v)) H
theorem pg_name {i:Nat} {x:Str} (hN:X.N.Nodup) (hi:X.N[i]?=some x) (hx:Loc X.env.scope x) (hf:X.fn x=true∨X.env.scope.names.lookup x=some .local:=by first | exact .inl rfl | exact .inr rfl | assumption):PG X (.Name x pos) (gName i):=by
 intro pins s σ H v u Q I r h
 exact wpAny_assign_Name (store_ok I hN hi hx r (fun s' I'=>⟨_,H,I',h⟩) hf)
def gNil:TGs:=fun vs σ H Q=>vs=[]∧Q σ H
def gCons (t:TG) (u:TGs):TGs:=fun vs σ H Q=>∃ v r,vs=v :: r∧t v σ H fun σ' H'=>u r σ' H' Q
theorem pgs_nil:PGs X [] gNil:=by
 intro pins s σ H vs us Q I r h
 obtain ⟨e,h⟩:=h
 subst e
 cases r
 exact assignInOrder_nil ⟨σ,H,I,h⟩
theorem pgs_cons {e:Expr} {es:List Expr} {t:TG} {u:TGs} (h1:PG X e t) (h2:PGs X es u)
  (hs:(assignEach (e :: es) X.env).map (·.2)=assign e X.env :: (assignEach es X.env).map (·.2):=by rfl):PGs X (e :: es) (gCons t u):=by
 intro pins s σ H vs us Q I r h
 obtain ⟨v,vr,e1,h⟩:=h
 subst e1
 cases r with
 | cons r rr =>
  rw [hs]
  refine assignInOrder_cons (thn (h1 pins s σ H _ _ _ I r h) fun _ s1 ⟨σ1,H1,I1,q1⟩=>?_)
  exact h2 pins s1 σ1 H1 _ _ Q I1 rr q1
def gTup (K:PySem.W.Frag) (n:Nat) (t:TGs):TG:=fun v σ H Q=>∃ a xs,v=.ref a∧SqT K H a xs∧xs.length=n∧t xs σ H Q
theorem pg_tup {es:List Expr} {k:Nat} {t:TGs} {n:Nat} (hc:X.calm=true) (h:PGs X es t)
  (hn:(assignEach es X.env).length=n:=by rfl) (hst:(assignEach es X.env).findIdx? (·.1)=none:=by rfl):PG X (.Tuple es k pos) (gTup X.K n t):=by
 intro pins s σ H v u Q I r hw
 obtain ⟨a,xs,e1,hq,hl,hw⟩:=hw
 subst e1
 cases r
 obtain ⟨its,rv,ht,hz⟩:=I.tuple hq
 refine assign_Tuple_tuple (I.ok.hd hc) ht (by simp [hn,← hl,rv.length]) hst fun h' hx=>?_
 have I1:Inv X pins σ H { s with heap:=h' }:=I.kept (t':=s.toks) fun b o e=>hx b o (Nat.ne_of_lt (Heap.lt_size e)) e
 exact h pins _ σ H xs _ Q I1 (by simpa using rv) hw
def tAsg (te:TE) (g:TG):TS:=fun D σ H=>te σ H fun x H1=>g x σ H1 D.nx
theorem ps_set {i:Nat} {x:Str} {e:Expr} {te:TE} {pos':Pos} (hN:X.N.Nodup) (hi:X.N[i]?=some x) (hx:Loc X.env.scope x) (he:PE X e te) (hs:swapsWith e (some (.Name x pos')) pos.line X.env=pure false:=by rfl) (hf:X.fn x=true∨X.env.scope.names.lookup x=some .local:=by first | exact .inl rfl | exact .inr rfl | assumption) :
  PS X (.Assign [.Name x pos'] e pos) (tAsg te (gName i)):=by
 intro pins s σ H D I h
 refine wpAny_Assign_Name (thn (he pins s σ H _ I h) fun v s1 ⟨y,H1,I1,r1,q1⟩=>?_) hs
 exact store_ok I1 hN hi hx r1 (fun s2 I2=>⟨_,H1,I2,q1⟩) hf
end
section
variable {X:Cx} {pos:Pos}
def tWhile (c:TT) (tb:TS):TS:=fun D σ H=>∃ W:Nat→St→Hp→Prop,(∃ m,W m σ H)∧∀ m σ H,W m σ H →
 c σ H fun b H1=>if b=true then ∃ N:St→Hp→Prop,(∀ σ' H',N σ' H'→∃ m',m' < m∧W m' σ' H')∧tb { D with nx:=N,ct:=N,bk:=D.nx } σ H1 else D.nx σ H1
theorem ps_while {c:Expr} {body:List Stmt} {tc:TT} {tb:TS} (hp:PassesOwn (model X.prog X.w) X.A X.env X.xe) (hc:PT X c tc) (hb:PSs X body tb):PS X (.While c body [] pos) (tWhile tc tb):=by
 intro pins s σ H D I h
 obtain ⟨W,⟨m0,w0⟩,turn⟩:=h
 refine wpAny_While (codeAny_whileLoop (fun n s'=>∃ σ' H',Inv X pins σ' H' s'∧W n σ' H') ?_ m0 ⟨σ,H,I,w0⟩)
 rintro n s1 ⟨σ1,H1,I1,w1⟩
 refine wpAny_passesOwn hp (thn (hc pins s1 σ1 H1 _ I1 (turn n σ1 H1 w1)) fun b s2 ⟨H2,I2,q2⟩=>?_)
 cases b with
 | true =>
  obtain ⟨N,hN,q2⟩:=q2
  rw [if_pos rfl]
  refine wpAny_passesOwn hp (thn (hb pins s2 σ1 H2 _ I2 q2) fun f s3 q3=>?_)
  cases f with
  | next =>
   obtain ⟨σ3,H3,I3,n3⟩:=q3
   obtain ⟨m',hm,w3⟩:=hN σ3 H3 n3
   exact ⟨m',hm,σ3,H3,I3,w3⟩
  | cont =>
   obtain ⟨σ3,H3,I3,n3⟩:=q3
   obtain ⟨m',hm,w3⟩:=hN σ3 H3 n3
   exact ⟨m',hm,σ3,H3,I3,w3⟩
  | brk=>exact q3
  | ret v=>exact q3
 | false =>
  rw [if_neg Bool.false_ne_true]
  exact wpAny_execs_nil ⟨σ1,H2,I2,q2⟩
end
structure It where
 go:Nat→Hp→Prop
 yld:Nat→Hp→V→Hp→Prop
 stop:Nat→Hp→Prop
def FpOk (X:Cx) (pins:List (Addr×Obj)) (H:Hp) (b:Addr):Prop :=
 H b=none∧b≠X.env.locals∧b∉X.fs∧(b∈X.ex∨X.s₀.heap.objs.size≤b)∧(∀ x c,X.env.cells.lookup x=some c→c≠b)∧∀ p∈X.pn++pins,p.1≠b
theorem Inv.fpOk {X:Cx} {pins:List (Addr×Obj)} {σ:St} {H H':Hp} {s:Shared} {b:Addr} (I:Inv X pins σ H s) (hb:s.heap.objs.size≤b) (hn:H' b=none):FpOk X pins H' b:=by
 refine ⟨hn,Nat.ne_of_gt (Nat.lt_of_lt_of_le I.lt hb),I.nofs hb,.inr (Nat.le_trans I.sz hb),fun x c e z=>?_,fun p hp z=>?_⟩
 ·obtain ⟨v,q⟩:=I.cell x c e
  exact absurd (Nat.lt_of_lt_of_le q.lt (by rw [z];exact hb)) (Nat.lt_irrefl _)
 ·exact absurd (Nat.lt_of_lt_of_le (Heap.lt_size (I.pin p hp).1) (by rw [z];exact hb)) (Nat.lt_irrefl _)
structure Turn (P:Program) (w:World) (K:PySem.W.Frag) (tg:Expr) (J:It) (fp:List Addr) (it:Addr) (tn:Nat→Heap→Prop):Prop where
 mem:it∈fp
 obj:∀ i h,tn i h→∀ b∈fp,∃ o,h.get? b=some o∧∀ v,o.data≠.cell v
 keep:∀ i h h',tn i h→(∀ b∈fp,∀ o,h.get? b=some o→h'.get? b=some o)→tn i h'
 item:∀ (X:Cx),X.prog=P→X.w=w→X.K=K→X.calm=true→∀ (i:Nat) (pins:List (Addr×Obj)) (s:Shared) (σ:St) (H:Hp) (E:Value→Shared→Prop),Inv X pins σ H s→(∀ b∈fp,FpOk X pins H b)→tn i s.heap→J.go i H →
  wpAny (model P w) X.A (pyNext (.ref it)) (fun r s1=>∃ u,r=some u ∧
   wpAny (model P w) X.A (letOwnedTupleGo tg (.ref it) u) (fun _ s2=>∃ x H',Inv X pins σ H' s2∧RelV x u∧J.yld i H x H'∧tn (i+1) s2.heap∧∀ b∈fp,H' b=none) E s1) E s
 done:∀ (X:Cx),X.prog=P→X.w=w→X.K=K→X.calm=true→∀ (i:Nat) (pins:List (Addr×Obj)) (s:Shared) (σ:St) (H:Hp) (E:Value→Shared→Prop),Inv X pins σ H s→(∀ b∈fp,FpOk X pins H b)→tn i s.heap→J.stop i H →
  wpAny (model P w) X.A (pyNext (.ref it)) (fun r s1=>r=none∧Inv X pins σ H s1) E s
 self:∀ (A:Around) (i:Nat) (s:Shared) (Q:Value→Shared→Prop) (E:Value→Shared→Prop),tn i s.heap→Q (.ref it) s→wpAny (model P w) A (pyIter (.ref it)) Q E s
abbrev TI:=St→Hp→(It→Hp→Prop)→Prop
def PIE (X:Cx) (pins:List (Addr×Obj)) (σ:St) (tg:Expr) (R:It→Hp→Prop) (itv:Value) (s2:Shared):Prop :=
 ∃ (it:Addr) (fp:List Addr) (tn:Nat→Heap→Prop) (J:It) (H':Hp),itv=.ref it∧Inv X pins σ H' s2∧Turn X.prog X.w X.K tg J fp it tn∧tn 0 s2.heap∧(∀ b∈fp,FpOk X pins H' b)∧R J H'
def PI (X:Cx) (tg iter:Expr) (wi:TI):Prop :=
 ∀ (pins:List (Addr×Obj)) (s:Shared) (σ:St) (H:Hp) (R:It→Hp→Prop),Inv X pins σ H s→wi σ H R →
  wpAny (model X.prog X.w) X.A (eval iter X.env) (fun v s1=>wpAny (model X.prog X.w) X.A (pyIter v) (PIE X pins σ tg R) X.xe s1) X.xe s
theorem go_of {M:Model} {A:Around} {E:Value→Shared→Prop} {s:Shared} {tg:Expr} {it:Addr} {u:Value} {o:Obj} {n:String} {vs:Array Value} {Q:Unit→Shared→Prop} (ho:s.heap.get? it=some o) (hc:o.cls=.type n) (hd:o.data=.fields vs)
    (hn:["enumerate","zip","dict_itemiterator","dict_reverseitemiterator","odict_iterator","itertools.zip_longest","itertools.pairwise"].contains n=false) (hQ:Q () s):wpAny M A (letOwnedTupleGo tg (.ref it) u) Q E s:=by
  unfold letOwnedTupleGo
  cases tg <;> first
    | exact wpAny_pure hQ
    | (cases u <;> first
        | exact wpAny_pure hQ
        | (refine wpAny_bind (wpAny_load ho ?_)
           rw [hc,hd]
           show wpAny M A (if (["enumerate","zip","dict_itemiterator","dict_reverseitemiterator","odict_iterator","itertools.zip_longest","itertools.pairwise"].contains n && vs[0]? == some (rawInt _))=true then _ else _) Q E s
           rw [if_neg (by intro h;rw [hn,Bool.false_and] at h;cases h)]
           exact wpAny_pure hQ))
def Itl (K:PySem.W.Frag) (a:Addr):It :=
 ⟨fun i H=>∃ xs x,SqL K H a xs∧xs[i]?=some x,fun i H x H'=>H'=H∧∀ xs,SqL K H a xs→xs[i]?=some x,fun i H=>∃ xs,SqL K H a xs∧xs.length≤i⟩
def Itt (K:PySem.W.Frag) (a:Addr):It :=
 ⟨fun i H=>∃ xs x,SqT K H a xs∧xs[i]?=some x,fun i H x H'=>H'=H∧∀ xs,SqT K H a xs→xs[i]?=some x,fun i H=>∃ xs,SqT K H a xs∧xs.length≤i⟩
def Itr (lo:Int) (n:Nat):It:=⟨fun i _=>i < n,fun i H x H'=>H'=H∧x=.int (lo+i),fun i _=>n≤i⟩
theorem turn_list {P:Program} {w:World} {K:PySem.W.Frag} {tg:Expr} (a it:Addr):Turn P w K tg (Itl K a) [it] it (fun i h=>h.IsListIter it a i) where
 mem:=by simp
 obj:=fun i h st b hb=>by
  have e:b=it:=by simpa using hb
  subst e
  obtain ⟨o,e,c,d⟩:=st
  exact ⟨o,e,fun v z=>by rw [d] at z;cases z⟩
 keep:=fun i h h' st k=>st.at fun o e=>k it (by simp) o e
 item:=by
  intro X hP hw hK hc i pins s σ H E I hf st hg
  subst hP hw hK
  obtain ⟨xs,x,hq,hx⟩:=hg
  obtain ⟨its,rv,p,hz⟩:=I.list hq
  obtain ⟨u,hu,ru⟩:=rv.get hx
  obtain ⟨f0,f1,f2,f3,f4,f5⟩:=hf it (by simp)
  refine wpAny_pyNext_list_item st p.isList (x:=u) (by simpa using hu) fun h' st' sb=>?_
  have I1:Inv X pins σ H { s with heap:=h' }:=I.turned (t':=s.toks) (fun b o hb e=>(sb.2 b hb).trans e) f0 f1 f3 f4 f5
  obtain ⟨o,e,c,d⟩:=id st'
  exact ⟨u,rfl,go_of (s:={ s with heap:=h' }) e c d (by decide) ⟨x,H,I1,ru,⟨rfl,fun ys hy=>by rw [I.list_inj hy hq];exact hx⟩,st',fun b hb=>(hf b hb).1⟩⟩
 done:=by
  intro X hP hw hK hc i pins s σ H E I hf st hg
  subst hP hw hK
  obtain ⟨xs,hq,hx⟩:=hg
  obtain ⟨its,rv,p,hz⟩:=I.list hq
  obtain ⟨f0,f1,f2,f3,f4,f5⟩:=hf it (by simp)
  have hl:=rv.length
  exact wpAny_pyNext_list_end (I.ok.hd hc) st p.isList (by simp;omega) fun h' eb=>⟨rfl,I.turned (t':=s.toks) (fun b o hb e=>eb b o hb e) f0 f1 f3 f4 f5⟩
 self:=fun _ _ _ _ _ st h=>wpAny_pyIter_listiter st h
theorem turn_tuple {P:Program} {w:World} {K:PySem.W.Frag} {tg:Expr} (a it:Addr):Turn P w K tg (Itt K a) [it] it (fun i h=>h.IsTupleIter it a i) where
 mem:=by simp
 obj:=fun i h st b hb=>by
  have e:b=it:=by simpa using hb
  subst e
  obtain ⟨o,e,c,d⟩:=st
  exact ⟨o,e,fun v z=>by rw [d] at z;cases z⟩
 keep:=fun i h h' st k=>st.at fun o e=>k it (by simp) o e
 item:=by
  intro X hP hw hK hc i pins s σ H E I hf st hg
  subst hP hw hK
  obtain ⟨xs,x,hq,hx⟩:=hg
  obtain ⟨its,rv,p,hz⟩:=I.tuple hq
  obtain ⟨u,hu,ru⟩:=rv.get hx
  obtain ⟨f0,f1,f2,f3,f4,f5⟩:=hf it (by simp)
  refine wpAny_pyNext_tuple_item st (show s.heap.IsTuple a its.toArray from p) (x:=u) (by simpa using hu) fun h' st' sb=>?_
  have I1:Inv X pins σ H { s with heap:=h' }:=I.turned (t':=s.toks) (fun b o hb e=>(sb.2 b hb).trans e) f0 f1 f3 f4 f5
  obtain ⟨o,e,c,d⟩:=id st'
  exact ⟨u,rfl,go_of (s:={ s with heap:=h' }) e c d (by decide) ⟨x,H,I1,ru,⟨rfl,fun ys hy=>by rw [I.tuple_inj hy hq];exact hx⟩,st',fun b hb=>(hf b hb).1⟩⟩
 done:=by
  intro X hP hw hK hc i pins s σ H E I hf st hg
  subst hP hw hK
  obtain ⟨xs,hq,hx⟩:=hg
  obtain ⟨its,rv,p,hz⟩:=I.tuple hq
  obtain ⟨f0,f1,f2,f3,f4,f5⟩:=hf it (by simp)
  have hl:=rv.length
  exact wpAny_pyNext_tuple_end (I.ok.hd hc) st (show s.heap.IsTuple a its.toArray from p) (by simp;omega) fun h' eb=>⟨rfl,I.turned (t':=s.toks) (fun b o hb e=>eb b o hb e) f0 f1 f3 f4 f5⟩
 self:=fun _ _ _ _ _ st h=>wpAny_pyIter_tupleiter st h
theorem turn_range {P:Program} {w:World} {K:PySem.W.Frag} {tg:Expr} (it:Addr) (lo:Int) (n:Nat):Turn P w K tg (Itr lo n) [it] it (fun i h=>IsRangeIter h it (lo+(i:Nat) * 1) ((n:Int) - (i:Nat)) 1) where
 mem:=by simp
 obj:=fun i h st b hb=>by
  have e:b=it:=by simpa using hb
  subst e
  exact ⟨_,st,fun v z=>by
   have z':Data.fields _=Data.cell v:=z
   cases z'⟩
 keep:=fun i h h' st k=>k it (by simp) _ st
 item:=by
  intro X hP hw hK hc i pins s σ H E I hf st hg
  subst hP hw hK
  obtain ⟨f0,f1,f2,f3,f4,f5⟩:=hf it (by simp)
  have W:=Walks.range (prog:=X.prog) (w:=X.w) (I.ok.hd hc) it lo 1 n
  refine W.item i s _ _ hg st fun v h' tk hv st' kk=>?_
  obtain ⟨t,rfl⟩:=hv
  have I1:Inv X pins σ H { s with heap:=h',toks:=tk }:=I.turned (fun b o hb e=>kk b o (by simpa using hb) e) f0 f1 f3 f4 f5
  refine ⟨_,rfl,go_of (s:={ s with heap:=h',toks:=tk }) (n:="range_iterator") st' rfl rfl (by decide) ⟨.int (lo+i),H,I1,⟨t,?_⟩,⟨rfl,rfl⟩,st',fun b hb=>(hf b hb).1⟩⟩
  rw [Int.mul_one]
 done:=by
  intro X hP hw hK hc i pins s σ H E I hf st hg
  subst hP hw hK
  obtain ⟨f0,f1,f2,f3,f4,f5⟩:=hf it (by simp)
  exact wpAny_pyNext_range_end (I.ok.hd hc) st (by have:n≤i:=hg;omega) fun h' eb=>⟨rfl,I.turned (t':=s.toks) (fun b o hb e=>eb b o hb e) f0 f1 f3 f4 f5⟩
 self:=fun _ _ _ _ _ st h=>wpAny_pyIter_rangeiter st h
end L2
namespace L2
open PySem PySem.Spec PyProof.Rows
section
variable {X:Cx} {tg:Expr}
def iList (K:PySem.W.Frag) (tl:TE):TI:=fun σ H R=>tl σ H fun x H1=>∃ a,x=.ref a∧(∃ xs,SqL K H1 a xs)∧R (Itl K a) H1
def iTup (K:PySem.W.Frag) (tl:TE):TI:=fun σ H R=>tl σ H fun x H1=>∃ a,x=.ref a∧(∃ xs,SqT K H1 a xs)∧R (Itt K a) H1
theorem pi_list {l:Expr} {tl:TE} (hl:PE X l tl):PI X tg l (iList X.K tl):=by
 intro pins s σ H R I h
 refine thn (hl pins s σ H _ I h) fun v s1 ⟨x,H1,I1,r1,q1⟩=>?_
 obtain ⟨a,e,⟨xs,hq⟩,q⟩:=q1
 subst e
 cases r1
 obtain ⟨its,rv,p,hz⟩:=I1.list hq
 refine wpAny_pyIter_list p.isList ?_
 refine ⟨s1.heap.objs.size,[s1.heap.objs.size],_,_,H1,rfl,I1.kept (t':=s1.toks) fun b o e=>Heap.get?_push_of_some _ e,turn_list a _,⟨_,Heap.get?_push_size _ rfl,rfl,rfl⟩,fun b hb=>?_,q⟩
 have e:b=s1.heap.objs.size:=by simpa using hb
 subst e
 exact I1.fpOk (Nat.le_refl _) (I1.hok.fresh (Nat.le_refl _))
theorem pi_tup {l:Expr} {tl:TE} (hl:PE X l tl):PI X tg l (iTup X.K tl):=by
 intro pins s σ H R I h
 refine thn (hl pins s σ H _ I h) fun v s1 ⟨x,H1,I1,r1,q1⟩=>?_
 obtain ⟨a,e,⟨xs,hq⟩,q⟩:=q1
 subst e
 cases r1
 obtain ⟨its,rv,p,hz⟩:=I1.tuple hq
 refine wpAny_pyIter_tuple (show s1.heap.IsTuple a its.toArray from p) ?_
 refine ⟨s1.heap.objs.size,[s1.heap.objs.size],_,_,H1,rfl,I1.kept (t':=s1.toks) fun b o e=>Heap.get?_push_of_some _ e,turn_tuple a _,⟨_,Heap.get?_push_size _ rfl,rfl,rfl⟩,fun b hb=>?_,q⟩
 have e:b=s1.heap.objs.size:=by simpa using hb
 subst e
 exact I1.fpOk (Nat.le_refl _) (I1.hok.fresh (Nat.le_refl _))
theorem range_it {pins:List (Addr×Obj)} {σ:St} {H:Hp} {s:Shared} {R:It→Hp→Prop} {E:Value→Shared→Prop} {lo hi:Int} {t u v:Tok} {tk:Nat} (I:Inv X pins σ H s) (h1:-(2 ^ 62)≤lo) (h2:lo < 2 ^ 62) (h3:-(2 ^ 62)≤hi) (h4:hi < 2 ^ 62)
  (q:R (Itr lo (hi - lo).toNat) H):wpAny (model X.prog X.w) X.A (pyIter (.ref s.heap.objs.size)) (PIE X pins σ tg R) E { s with heap:=s.heap.push { cls:=.type "range",data:=.fields #[.int lo t,.int hi u,.int 1 v] },toks:=tk }:=by
 refine wpAny_pyIter_range (IsRange.new ..) (small_one h1 h2 h3 h4) ?_
 have I1:Inv X pins σ H { s with heap:=s.heap.push { cls:=.type "range",data:=.fields #[.int lo t,.int hi u,.int 1 v] },toks:=tk }:=I.kept fun b o e=>Heap.get?_push_of_some _ e
 refine ⟨(s.heap.push { cls:=.type "range",data:=.fields #[.int lo t,.int hi u,.int 1 v] }).objs.size,[(s.heap.push { cls:=.type "range",data:=.fields #[.int lo t,.int hi u,.int 1 v] }).objs.size],_,_,H,rfl,
  I1.kept (t':=tk) fun b o e=>Heap.get?_push_of_some _ e,turn_range _ lo (hi - lo).toNat,?_,fun b hb=>?_,q⟩
 ·have e1:lo+((0:Nat):Int) * 1=lo:=by simp
  have e2:(((hi - lo).toNat:Nat):Int) - ((0:Nat):Int)=Builtin.Range.rangeSize lo hi 1:=by rw [rangeSize_one];split <;> omega
  show IsRangeIter _ _ (lo+((0:Nat):Int) * 1) ((((hi - lo).toNat:Nat):Int) - ((0:Nat):Int)) 1
  rw [e1,e2]
  exact Heap.get?_push_size _ rfl
 ·have e:b=(s.heap.push { cls:=.type "range",data:=.fields #[.int lo t,.int hi u,.int 1 v] }).objs.size:=by simpa using hb
  subst e
  exact I1.fpOk (Nat.le_refl _) (I1.hok.fresh (Nat.le_refl _))
def iRng1 (ta:TA):TI:=fun σ H R=>ta σ H fun vs H1=>∃ j:Int,vs=[.int j]∧-(2 ^ 62)≤j∧j < 2 ^ 62∧R (Itr 0 j.toNat) H1
def iRng2 (ta:TA):TI:=fun σ H R=>ta σ H fun vs H1=>∃ i j:Int,vs=[.int i,.int j]∧(-(2 ^ 62)≤i∧i < 2 ^ 62∧-(2 ^ 62)≤j∧j < 2 ^ 62)∧R (Itr i (j - i).toNat) H1
theorem pi_range1 {a:Expr} {ta:TA} {p pos:Pos} (hg:Gl X "range") (hm:X.mg "range"=none) (ha:PA X [a] ta) (hs:starEach [a] X.env=[(false,eval a X.env)]:=by rfl):PI X tg (.Call (.Name "range" p) [a] [] pos) (iRng1 ta):=by
 intro pins s σ H R I h
 refine Call_ (ld_blt I hg hm boot_range (PyProof.Rows.callWith_type1 (thn (ha pos pins s σ H _ I h) fun us s1 ⟨vs,H1,I1,r1,q1⟩=>?_) hs rfl))
 obtain ⟨j,e,q1,q2,q⟩:=q1
 subst e
 cases r1 with
 | cons r rr =>
  cases rr
  obtain ⟨t,rfl⟩:=r
  exact call_range_1 (range_it I1 (by omega) (by omega) q1 q2 (by simpa using q))
theorem pi_range2 {a b:Expr} {ta:TA} {p pos:Pos} (hg:Gl X "range") (hm:X.mg "range"=none) (ha:PA X [a,b] ta) (hs:starEach [a,b] X.env=[(false,eval a X.env),(false,eval b X.env)]:=by rfl) (hs2:starEach [b] X.env=[(false,eval b X.env)]:=by rfl) :
  PI X tg (.Call (.Name "range" p) [a,b] [] pos) (iRng2 ta):=by
 intro pins s σ H R I h
 refine Call_ (ld_blt I hg hm boot_range (PyProof.Rows.callWith_type1 (thn (ha pos pins s σ H _ I h) fun us s1 ⟨vs,H1,I1,r1,q1⟩=>?_) (by rw [hs,hs2]) (by rw [hs2];rfl)))
 obtain ⟨i,j,e,⟨q1,q2,q3,q4⟩,q⟩:=q1
 subst e
 cases r1 with
 | cons r rr =>
  cases rr with
  | cons r' rr =>
   cases rr
   obtain ⟨t,rfl⟩:=r
   obtain ⟨t',rfl⟩:=r'
   exact call_range_2 (range_it I1 q1 q2 q3 q4 q)
def tFor (wi:TI) (g:TG) (tb:TS):TS:=fun D σ H=>wi σ H fun J H1=>∃ W:Nat→Nat→St→Hp→Prop,(∃ m,W 0 m σ H1)∧∀ i m σ H,W i m σ H →
 (J.stop i H∧D.nx σ H)∨(J.go i H∧∃ N:St→Hp→Prop,(∀ σ' H',N σ' H'→∃ m',m' < m∧W (i+1) m' σ' H')∧∀ x H',J.yld i H x H'→g x σ H' fun σ2 H2=>tb { D with nx:=N,ct:=N,bk:=D.nx } σ2 H2)
def pinsAt (fp:List Addr) (h:Heap):List (Addr×Obj):=fp.filterMap fun b=>(h.get? b).map fun o=>(b,o)
theorem mem_pinsAt {fp:List Addr} {h:Heap} {b:Addr} {o:Obj} (hb:b∈fp) (e:h.get? b=some o):(b,o)∈pinsAt fp h:=List.mem_filterMap.mpr ⟨b,hb,by rw [e];rfl⟩
theorem of_pinsAt {fp:List Addr} {h:Heap} {p:Addr×Obj} (hp:p∈pinsAt fp h):p.1∈fp∧h.get? p.1=some p.2:=by
 obtain ⟨b,hb,e⟩:=List.mem_filterMap.mp hp
 cases q:h.get? b with
 | none=>rw [q] at e;cases e
 | some o =>
  rw [q] at e
  have e':(b,o)=p:=Option.some.inj e
  subst e'
  exact ⟨hb,q⟩
theorem Inv.pinned {pins:List (Addr×Obj)} {σ:St} {H:Hp} {s:Shared} {fp:List Addr} (I:Inv X pins σ H s) (hf:∀ b∈fp,FpOk X pins H b) (ho:∀ b∈fp,∃ o,s.heap.get? b=some o∧∀ v,o.data≠.cell v):Inv X (pins++pinsAt fp s.heap) σ H s :=
 I.pins_of fun p hp=>(List.mem_append.mp hp).elim (fun z=>I.pin p (List.mem_append_right _ z)) fun z=>by
  obtain ⟨hb,e⟩:=of_pinsAt z
  obtain ⟨f0,f1,f2,_⟩:=hf p.1 hb
  obtain ⟨o,e',d⟩:=ho p.1 hb
  rw [e] at e';cases e'
  exact ⟨e,f0,f1,f2,d⟩
theorem Inv.unpinned {pins pl:List (Addr×Obj)} {σ:St} {H:Hp} {s:Shared} (I:Inv X (pins++pl) σ H s):Inv X pins σ H s:=I.pins_of fun p hp=>I.pin p (List.mem_append_right _ (List.mem_append_left _ hp))
theorem ps_for {iter:Expr} {body:List Stmt} {wi:TI} {g:TG} {tb:TS} {pos:Pos} (hp:PassesOwn (model X.prog X.w) X.A X.env X.xe) (hc:X.calm=true) (hi:PI X tg iter wi) (hg:PG X tg g) (hb:PSs X body tb)
  (hs:∀ x,foldedSetIterable iter X.env x=pure x:=by intro _;rfl):PS X (.For tg iter body [] pos) (tFor wi g tb):=by
 intro pins s σ H D I h
 refine wpAny_For (thn (hi pins s σ H _ I h) fun v s1 h1=>thn h1 fun itv s2 h2=>?_) hs
 obtain ⟨it,fp,tn,J,H2,e,I2,T,st2,f2,W,⟨m0,w0⟩,turn⟩:=h2
 subst e
 have stat:∀ {H':Hp},(∀ b∈fp,H' b=none)→∀ b∈fp,FpOk X pins H' b:=fun hn b hb=>⟨hn b hb,(f2 b hb).2⟩
 refine codeAny_forLoop_any (fun n s'=>∃ i σ' H',Inv X pins σ' H' s'∧tn i s'.heap∧(∀ b∈fp,H' b=none)∧W i n σ' H') ?_ m0 ⟨0,σ,H2,I2,st2,fun b hb=>(f2 b hb).1,w0⟩
 rintro n s3 ⟨i,σ3,H3,I3,st3,fr3,w3⟩
 rcases turn i n σ3 H3 w3 with ⟨stop,qn⟩ | ⟨go,N,hN,step⟩
 ·refine wpAny_passesOwn hp (thn (T.done X rfl rfl rfl hc i pins s3 σ3 H3 X.xe I3 (stat fr3) st3 stop) fun r s4 ⟨hr,I4⟩=>?_)
  subst hr
  exact wpAny_execs_nil ⟨σ3,H3,I4,qn⟩
 ·refine wpAny_passesOwn hp (thn (T.item X rfl rfl rfl hc i pins s3 σ3 H3 X.xe I3 (stat fr3) st3 go) fun r s4 ⟨u,hr,h4⟩=>?_)
  subst hr
  refine wpAny_passesOwn hp (thn h4 fun _ s5 ⟨x,H5,I5,r5,y5,st5,fr5⟩=>?_)
  have I5':=I5.pinned (stat fr5) (T.obj _ _ st5)
  refine wpAny_passesOwn hp (thn (hg _ s5 σ3 H5 x u _ I5' r5 (step x H5 y5)) fun _ s6 ⟨σ6,H6,I6,q6⟩=>?_)
  refine wpAny_passesOwn hp (thn (hb _ s6 σ6 H6 _ I6 q6) fun f s7 q7=>?_)
  have again:∀ {σ7:St} {H7:Hp},Inv X (pins++pinsAt fp s5.heap) σ7 H7 s7→N σ7 H7→∃ m,m < n∧∃ i σ' H',Inv X pins σ' H' s7∧tn i s7.heap∧(∀ b∈fp,H' b=none)∧W i m σ' H':=fun {σ7 H7} I7 n7=>by
   obtain ⟨m',hm,w7⟩:=hN σ7 H7 n7
   refine ⟨m',hm,i+1,σ7,H7,I7.unpinned,T.keep _ _ _ st5 fun b hb o e=>(I7.pin (b,o) (List.mem_append_right _ (List.mem_append_right _ (mem_pinsAt hb e)))).1,fun b hb=>?_,w7⟩
   obtain ⟨o,e,d⟩:=T.obj _ _ st5 b hb
   exact (I7.pin (b,o) (List.mem_append_right _ (List.mem_append_right _ (mem_pinsAt hb e)))).2.1
  cases f with
  | next=>obtain ⟨σ7,H7,I7,n7⟩:=q7;exact again I7 n7
  | cont=>obtain ⟨σ7,H7,I7,n7⟩:=q7;exact again I7 n7
  | brk=>obtain ⟨σ7,H7,I7,q7⟩:=q7;exact ⟨σ7,H7,I7.unpinned,q7⟩
  | ret v=>obtain ⟨x7,σ7,H7,I7,r7,q7⟩:=q7;exact ⟨x7,σ7,H7,I7.unpinned,r7,q7⟩
end
theorem for_list {K:PySem.W.Frag} {a:Addr} {xs:List V} {g:TG} {tb:TS} {D:Ends} {σ:St} {H:Hp} (Pv:Nat→St→Hp→Prop) (h0:Pv 0 σ H) (hl:∀ i σ H,i≤xs.length→Pv i σ H→SqL K H a xs)
  (hs:∀ i x σ H,xs[i]?=some x→Pv i σ H→g x σ H fun σ2 H2=>tb { D with nx:=Pv (i+1),ct:=Pv (i+1),bk:=D.nx } σ2 H2) (hd:∀ σ H,Pv xs.length σ H→D.nx σ H) :
  ∃ W:Nat→Nat→St→Hp→Prop,(∃ m,W 0 m σ H)∧∀ i m σ H,W i m σ H →
   ((Itl K a).stop i H∧D.nx σ H)∨((Itl K a).go i H∧∃ N:St→Hp→Prop,(∀ σ' H',N σ' H'→∃ m',m' < m∧W (i+1) m' σ' H')∧∀ x H',(Itl K a).yld i H x H'→g x σ H' fun σ2 H2=>tb { D with nx:=N,ct:=N,bk:=D.nx } σ2 H2):=by
 refine ⟨fun i m σ H=>m=xs.length - i∧i≤xs.length∧Pv i σ H,⟨xs.length,by simp,Nat.zero_le _,h0⟩,?_⟩
 rintro i m σ H ⟨rfl,hi,p⟩
 have q:=hl i σ H hi p
 by_cases hlt:i < xs.length
 ·refine .inr ⟨⟨xs,xs[i],q,by simp [hlt]⟩,Pv (i+1),fun σ' H' p'=>⟨xs.length - (i+1),by omega,rfl,hlt,p'⟩,fun x H' y=>?_⟩
  obtain ⟨e,y⟩:=y
  subst e
  exact hs i x σ _ (y xs q) p
 ·have e:i=xs.length:=by omega
  subst e
  exact .inl ⟨⟨xs,q,Nat.le_refl _⟩,hd σ H p⟩
theorem for_tup {K:PySem.W.Frag} {a:Addr} {xs:List V} {g:TG} {tb:TS} {D:Ends} {σ:St} {H:Hp} (Pv:Nat→St→Hp→Prop) (h0:Pv 0 σ H) (hl:∀ i σ H,i≤xs.length→Pv i σ H→SqT K H a xs)
  (hs:∀ i x σ H,xs[i]?=some x→Pv i σ H→g x σ H fun σ2 H2=>tb { D with nx:=Pv (i+1),ct:=Pv (i+1),bk:=D.nx } σ2 H2) (hd:∀ σ H,Pv xs.length σ H→D.nx σ H) :
  ∃ W:Nat→Nat→St→Hp→Prop,(∃ m,W 0 m σ H)∧∀ i m σ H,W i m σ H →
   ((Itt K a).stop i H∧D.nx σ H)∨((Itt K a).go i H∧∃ N:St→Hp→Prop,(∀ σ' H',N σ' H'→∃ m',m' < m∧W (i+1) m' σ' H')∧∀ x H',(Itt K a).yld i H x H'→g x σ H' fun σ2 H2=>tb { D with nx:=N,ct:=N,bk:=D.nx } σ2 H2):=by
 refine ⟨fun i m σ H=>m=xs.length - i∧i≤xs.length∧Pv i σ H,⟨xs.length,by simp,Nat.zero_le _,h0⟩,?_⟩
 rintro i m σ H ⟨rfl,hi,p⟩
 have q:=hl i σ H hi p
 by_cases hlt:i < xs.length
 ·refine .inr ⟨⟨xs,xs[i],q,by simp [hlt]⟩,Pv (i+1),fun σ' H' p'=>⟨xs.length - (i+1),by omega,rfl,hlt,p'⟩,fun x H' y=>?_⟩
  obtain ⟨e,y⟩:=y
  subst e
  exact hs i x σ _ (y xs q) p
 ·have e:i=xs.length:=by omega
  subst e
  exact .inl ⟨⟨xs,q,Nat.le_refl _⟩,hd σ H p⟩
theorem for_range {lo:Int} {n:Nat} {g:TG} {tb:TS} {D:Ends} {σ:St} {H:Hp} (Pv:Nat→St→Hp→Prop) (h0:Pv 0 σ H)
  (hs:∀ i σ H,i < n→Pv i σ H→g (.int (lo+i)) σ H fun σ2 H2=>tb { D with nx:=Pv (i+1),ct:=Pv (i+1),bk:=D.nx } σ2 H2) (hd:∀ σ H,Pv n σ H→D.nx σ H) :
  ∃ W:Nat→Nat→St→Hp→Prop,(∃ m,W 0 m σ H)∧∀ i m σ H,W i m σ H →
   ((Itr lo n).stop i H∧D.nx σ H)∨((Itr lo n).go i H∧∃ N:St→Hp→Prop,(∀ σ' H',N σ' H'→∃ m',m' < m∧W (i+1) m' σ' H')∧∀ x H',(Itr lo n).yld i H x H'→g x σ H' fun σ2 H2=>tb { D with nx:=N,ct:=N,bk:=D.nx } σ2 H2):=by
 refine ⟨fun i m σ H=>m=n - i∧i≤n∧Pv i σ H,⟨n,by simp,Nat.zero_le _,h0⟩,?_⟩
 rintro i m σ H ⟨rfl,hi,p⟩
 by_cases hlt:i < n
 ·refine .inr ⟨hlt,Pv (i+1),fun σ' H' p'=>⟨n - (i+1),by omega,rfl,hlt,p'⟩,fun x H' y=>?_⟩
  obtain ⟨e,y⟩:=y
  subst e y
  exact hs i σ _ hlt p
 ·have e:i=n:=by omega
  subst e
  exact .inl ⟨Nat.le_refl _,hd σ H p⟩
end L2
namespace L2
open PySem PySem.Spec PyProof.Rows
abbrev R2:=V→V→Hp→VK→Prop
def OpR (X:Cx) (f:Value→Value→Sem Value) (r:R2):Prop :=
 ∀ (pins:List (Addr×Obj)) (s:Shared) (σ:St) (H:Hp) (x y:V) (v u:Value) (Q:VK),Inv X pins σ H s→RelV x v→RelV y u→r x y H Q →
  wpAny (model X.prog X.w) X.A (f v u) (EP X pins σ Q) X.xe s
def UnR (X:Cx) (f:Value→Sem Value) (r:V→Hp→VK→Prop):Prop :=
 ∀ (pins:List (Addr×Obj)) (s:Shared) (σ:St) (H:Hp) (x:V) (v:Value) (Q:VK),Inv X pins σ H s→RelV x v→r x H Q →
  wpAny (model X.prog X.w) X.A (f v) (EP X pins σ Q) X.xe s
def CallR (X:Cx) (f:Value) (r:List V→Hp→VK→Prop):Prop :=
 ∀ (pins:List (Addr×Obj)) (s:Shared) (σ:St) (H:Hp) (xs:List V) (us:List Value) (Q:VK),Inv X pins σ H s→Vals xs us→r xs H Q →
  wpAny (model X.prog X.w) X.A (call f us) (EP X pins σ Q) X.xe s
def tOp (r:R2) (ta tb:TE):TE:=fun σ H Q=>ta σ H fun x H1=>tb σ H1 fun y H2=>r x y H2 Q
def tUn (r:V→Hp→VK→Prop) (ta:TE):TE:=fun σ H Q=>ta σ H fun x H1=>r x H1 Q
def rI (C:Int→Int→Prop) (g:Int→Int→V):R2:=fun x y H Q=>∃ i j,x=.int i∧y=.int j∧C i j∧Q (g i j) H
def rI0 (g:Int→Int→V):R2:=fun x y H Q=>∃ i j,x=.int i∧y=.int j∧Q (g i j) H
def rU (g:Int→V):V→Hp→VK→Prop:=fun x H Q=>∃ i,x=.int i∧Q (g i) H
section
variable {X:Cx} {a b c:Expr} {ta tb tc:TE} {pos:Pos}
theorem binT (ha:PE X a ta) (hb:PE X b tb) {pins:List (Addr×Obj)} {s:Shared} {σ:St} {H:Hp} {R:V→V→Hp→Prop} (I:Inv X pins σ H s)
  (h:ta σ H fun x H1=>tb σ H1 fun y H2=>R x y H2) {Q:Value→Shared→Prop} {f:Value→Value→Sem Value}
  (hf:∀ v u s2 x y H2,Inv X pins σ H2 s2→RelV x v→RelV y u→R x y H2→wpAny (model X.prog X.w) X.A (f v u) Q X.xe s2) :
  wpAny (model X.prog X.w) X.A (eval a X.env) (fun v s₁=>wpAny (model X.prog X.w) X.A (eval b X.env) (fun u s₂=>wpAny (model X.prog X.w) X.A (f v u) Q X.xe s₂) X.xe s₁) X.xe s:=by
 refine thn (ha pins s σ H _ I h) fun v s1 ⟨x,H1,I1,r1,q1⟩=>?_
 refine thn (hb pins s1 σ H1 _ I1 q1) fun u s2 ⟨y,H2,I2,r2,q2⟩=>?_
 exact hf v u s2 x y H2 I2 r1 r2 q2
theorem pe_op {op:Operator} {r:R2} (ho:OpR X (binaryOp op) r) (ha:PE X a ta) (hb:PE X b tb):PE X (.BinOp a op b pos) (tOp r ta tb):=by
 intro pins s σ H Q I h
 exact wpAny_BinOp (binT ha hb I h fun v u s2 x y H2 I2 rx ry q=>ho pins s2 σ H2 x y v u Q I2 rx ry q)
theorem pe_un {op:UnaryOp} {r:V→Hp→VK→Prop} (ho:UnR X (unaryOp op) r) (ha:PE X a ta):PE X (.UnaryOp op a pos) (tUn r ta):=by
 intro pins s σ H Q I h
 exact UnaryOp_ (thn (ha pins s σ H _ I h) fun v s1 ⟨x,H1,I1,r1,q1⟩=>ho pins s1 σ H1 x v Q I1 r1 q1)
theorem opI {f:Value→Value→Sem Value} {C:Int→Int→Prop} {g:Int→Int→Int}
  (rule:∀ (i j:Int) (t u:Tok) (s:Shared) (Q:Value→Shared→Prop) (E:Value→Shared→Prop),C i j→Q (.int (g i j) s.toks) { s with toks:=s.toks+1 }→wpAny (model X.prog X.w) X.A (f (.int i t) (.int j u)) Q E s) :
  OpR X f (rI C fun i j=>.int (g i j)):=by
 intro pins s σ H x y v u Q I rx ry h
 obtain ⟨i,j,rfl,rfl,hc,q⟩:=h
 obtain ⟨t,rfl⟩:=rx
 obtain ⟨t',rfl⟩:=ry
 exact rule i j t t' s _ _ hc ⟨.int (g i j),H,I.tok _,⟨_,rfl⟩,q⟩
theorem opI0 {f:Value→Value→Sem Value} {g:Int→Int→Int}
  (rule:∀ (i j:Int) (t u:Tok) (s:Shared) (Q:Value→Shared→Prop) (E:Value→Shared→Prop),Q (.int (g i j) s.toks) { s with toks:=s.toks+1 }→wpAny (model X.prog X.w) X.A (f (.int i t) (.int j u)) Q E s) :
  OpR X f (rI0 fun i j=>.int (g i j)):=by
 intro pins s σ H x y v u Q I rx ry h
 obtain ⟨i,j,rfl,rfl,q⟩:=h
 obtain ⟨t,rfl⟩:=rx
 obtain ⟨t',rfl⟩:=ry
 exact rule i j t t' s _ _ ⟨.int (g i j),H,I.tok _,⟨_,rfl⟩,q⟩
theorem opB0 {f:Value→Value→Sem Value} {g:Int→Int→Bool}
  (rule:∀ (i j:Int) (t u:Tok) (s:Shared) (Q:Value→Shared→Prop) (E:Value→Shared→Prop),Q (.bool (g i j)) s→wpAny (model X.prog X.w) X.A (f (.int i t) (.int j u)) Q E s) :
  OpR X f (rI0 fun i j=>.bl (g i j)):=by
 intro pins s σ H x y v u Q I rx ry h
 obtain ⟨i,j,rfl,rfl,q⟩:=h
 obtain ⟨t,rfl⟩:=rx
 obtain ⟨t',rfl⟩:=ry
 exact rule i j t t' s _ _ ⟨.bl (g i j),H,I,rfl,q⟩
def CDiv (i j:Int):Prop:=0 < j∧j < 1073741824
def CMul (i j:Int):Prop:=(-(2 ^ 64) < i∧i < 2 ^ 64)∨(-(2 ^ 64) < j∧j < 2 ^ 64)
theorem CMul.ok {i j:Int} (h:CMul i j):IntMulOk i j:=by
 rcases h with ⟨h1,h2⟩ | ⟨h1,h2⟩
 ·exact .of_left (intBits_le_64 h1 h2)
 ·exact .of_right (intBits_le_64 h1 h2)
theorem op_add:OpR X (binaryOp .Add) (rI0 fun i j=>.int (i+j)):=opI0 fun _ _ _ _ _ _ _ q=>add_int q
theorem op_sub:OpR X (binaryOp .Sub) (rI0 fun i j=>.int (i - j)):=opI0 fun _ _ _ _ _ _ _ q=>sub_int q
theorem op_mul:OpR X (binaryOp .Mult) (rI CMul fun i j=>.int (i * j)):=opI fun _ _ _ _ _ _ _ hc q=>mul_int q hc.ok
theorem op_fdiv:OpR X (binaryOp .FloorDiv) (rI CDiv fun i j=>.int (i / j)):=opI fun i j _ _ _ _ _ hc q=>by
 have h1:(0:Int) < j:=hc.1
 have h2:j < 1073741824:=hc.2
 exact floordiv_int (by omega) (by rw [Int.fdiv_eq_ediv_of_nonneg i (by omega)];exact q) (.inl (PyProof.noPylong_small (by omega)))
theorem op_mod:OpR X (binaryOp .Mod) (rI (fun _ j=>0 < j) fun i j=>.int (i % j)):=opI fun i j _ _ _ _ _ hc q=>by
 have h1:(0:Int) < j:=hc
 exact mod_int' (by omega) (by rw [Int.fmod_eq_emod_of_nonneg i (by omega)];exact q)
theorem unI {f:Value→Sem Value} {g:Int→Int}
  (rule:∀ (i:Int) (t:Tok) (s:Shared) (Q:Value→Shared→Prop) (E:Value→Shared→Prop),Q (.int (g i) s.toks) { s with toks:=s.toks+1 }→wpAny (model X.prog X.w) X.A (f (.int i t)) Q E s) :
  UnR X f (rU fun i=>.int (g i)):=by
 intro pins s σ H x v Q I rx h
 obtain ⟨i,rfl,q⟩:=h
 obtain ⟨t,rfl⟩:=rx
 exact rule i t s _ _ ⟨.int (g i),H,I.tok _,⟨_,rfl⟩,q⟩
theorem un_neg:UnR X (unaryOp .USub) (rU fun i=>.int (-i)):=unI fun _ _ _ _ _ q=>neg_int q
end
def scal:V→V→Bool
 | .non,.non=>true | .non,.int _=>true | .int _,.non=>true | .non,.bl _=>true | .bl _,.non=>true | .non,.str _=>true | .str _,.non=>true
 | .int _,.int _=>true | .bl _,.bl _=>true | .str _,.str _=>true | .byt _,.byt _=>true
 | .int _,.str _=>true | .str _,.int _=>true | .bl _,.str _=>true | .str _,.bl _=>true
 | _,_=>false
def rEq:R2:=fun x y H Q=>scal x y=true∧Q (.bl (decide (x=y))) H
def rNe:R2:=fun x y H Q=>scal x y=true∧Q (.bl (!decide (x=y))) H
theorem dec_int {i j:Int}:decide (V.int i=V.int j)=(i == j):=by
 rw [Bool.eq_iff_iff]
 simp
theorem dec_bl {i j:Bool}:decide (V.bl i=V.bl j)=(i == j):=by
 rw [Bool.eq_iff_iff]
 simp
theorem dec_str {i j:Str}:decide (V.str i=V.str j)=(i == j):=by
 rw [Bool.eq_iff_iff]
 simp
theorem dec_byt {i j:Array UInt8}:decide (V.byt i=V.byt j)=(i.toList == j.toList):=by
 rw [Bool.eq_iff_iff]
 cases i
 cases j
 simp
section
variable {X:Cx} {a b c:Expr} {ta tb tc:TE} {pos:Pos}
theorem fin_bl {pins:List (Addr×Obj)} {σ:St} {H:Hp} {s:Shared} {Q:VK} {k k':Bool} (I:Inv X pins σ H s) (q:Q (.bl k) H) (e:k=k'):EP X pins σ Q (.bool k') s:=by
 subst e
 exact ⟨.bl k,H,I,rfl,q⟩
theorem op_eq:OpR X (compareOp .Eq) rEq:=by
 intro pins s σ H x y v u Q I rx ry h
 obtain ⟨hs,q⟩:=h
 cases x with
 | non =>
  cases rx
  cases y with
  | non=>cases ry;exact PySem.EqNone.eq_none_none (fin_bl I q (by simp))
  | bl j=>cases ry;exact PySem.EqNone.eq_none_bool (fin_bl I q (by simp))
  | int j=>obtain ⟨t',rfl⟩:=ry;exact PySem.EqNone.eq_none_int (fin_bl I q (by simp))
  | str j=>obtain ⟨t',rfl⟩:=ry;exact PySem.EqNone.eq_none_str (fin_bl I q (by simp))
  | _=>exact absurd (show false=true from hs) Bool.false_ne_true
 | bl i =>
  cases rx
  cases y with
  | non=>cases ry;exact PySem.EqNone.eq_bool_none (fin_bl I q (by simp))
  | bl j=>cases ry;exact eq_bool (fin_bl I q dec_bl)
  | str j=>obtain ⟨t',rfl⟩:=ry;exact PySem.EqMixed.eq_bool_str (fin_bl I q (by simp))
  | _=>exact absurd (show false=true from hs) Bool.false_ne_true
 | int i =>
  obtain ⟨t,rfl⟩:=rx
  cases y with
  | non=>cases ry;exact PySem.EqNone.eq_int_none (fin_bl I q (by simp))
  | int j=>obtain ⟨t',rfl⟩:=ry;exact eq_int (fin_bl I q dec_int)
  | str j=>obtain ⟨t',rfl⟩:=ry;exact PySem.EqMixed.eq_int_str (fin_bl I q (by simp))
  | _=>exact absurd (show false=true from hs) Bool.false_ne_true
 | str i =>
  obtain ⟨t,rfl⟩:=rx
  cases y with
  | non=>cases ry;exact PySem.EqNone.eq_str_none (fin_bl I q (by simp))
  | bl j=>cases ry;exact PySem.EqMixed.eq_str_bool (fin_bl I q (by simp))
  | int j=>obtain ⟨t',rfl⟩:=ry;exact PySem.EqMixed.eq_str_int (fin_bl I q (by simp))
  | str j=>obtain ⟨t',rfl⟩:=ry;exact eq_str (fin_bl I q dec_str)
  | _=>exact absurd (show false=true from hs) Bool.false_ne_true
 | byt i =>
  obtain ⟨t,rfl⟩:=rx
  cases y with
  | byt j=>obtain ⟨t',rfl⟩:=ry;exact PySem.W.eq_bytes (fin_bl I q dec_byt)
  | _=>exact absurd (show false=true from hs) Bool.false_ne_true
 | _=>cases y <;> exact absurd (show false=true from hs) Bool.false_ne_true
theorem op_ne:OpR X (compareOp .NotEq) rNe:=by
 intro pins s σ H x y v u Q I rx ry h
 obtain ⟨hs,q⟩:=h
 cases x with
 | non =>
  cases rx
  cases y with
  | non=>cases ry;exact PySem.EqNone.ne_none_none (fin_bl I q (by simp))
  | bl j=>cases ry;exact PySem.EqNone.ne_none_bool (fin_bl I q (by simp))
  | int j=>obtain ⟨t',rfl⟩:=ry;exact PySem.EqNone.ne_none_int (fin_bl I q (by simp))
  | str j=>obtain ⟨t',rfl⟩:=ry;exact PySem.EqNone.ne_none_str (fin_bl I q (by simp))
  | _=>exact absurd (show false=true from hs) Bool.false_ne_true
 | bl i =>
  cases rx
  cases y with
  | non=>cases ry;exact PySem.EqNone.ne_bool_none (fin_bl I q (by simp))
  | bl j=>cases ry;exact ne_bool (fin_bl I q (congrArg not dec_bl))
  | str j=>obtain ⟨t',rfl⟩:=ry;exact PySem.EqMixed.ne_bool_str (fin_bl I q (by simp))
  | _=>exact absurd (show false=true from hs) Bool.false_ne_true
 | int i =>
  obtain ⟨t,rfl⟩:=rx
  cases y with
  | non=>cases ry;exact PySem.EqNone.ne_int_none (fin_bl I q (by simp))
  | int j=>obtain ⟨t',rfl⟩:=ry;exact ne_int (fin_bl I q (congrArg not dec_int))
  | str j=>obtain ⟨t',rfl⟩:=ry;exact PySem.EqMixed.ne_int_str (fin_bl I q (by simp))
  | _=>exact absurd (show false=true from hs) Bool.false_ne_true
 | str i =>
  obtain ⟨t,rfl⟩:=rx
  cases y with
  | non=>cases ry;exact PySem.EqNone.ne_str_none (fin_bl I q (by simp))
  | bl j=>cases ry;exact PySem.EqMixed.ne_str_bool (fin_bl I q (by simp))
  | int j=>obtain ⟨t',rfl⟩:=ry;exact PySem.EqMixed.ne_str_int (fin_bl I q (by simp))
  | str j=>obtain ⟨t',rfl⟩:=ry;exact ne_str (fin_bl I q (congrArg not dec_str))
  | _=>exact absurd (show false=true from hs) Bool.false_ne_true
 | byt i =>
  obtain ⟨t,rfl⟩:=rx
  cases y with
  | byt j=>obtain ⟨t',rfl⟩:=ry;exact PySem.W.ne_bytes (fin_bl I q (congrArg not dec_byt))
  | _=>exact absurd (show false=true from hs) Bool.false_ne_true
 | _=>cases y <;> exact absurd (show false=true from hs) Bool.false_ne_true
theorem op_lt:OpR X (compareOp .Lt) (rI0 fun i j=>.bl (decide (i < j))):=opB0 fun _ _ _ _ _ _ _ q=>lt_int q
theorem op_le:OpR X (compareOp .LtE) (rI0 fun i j=>.bl (decide (i≤j))):=opB0 fun _ _ _ _ _ _ _ q=>le_int q
theorem op_isN:OpR X (compareOp .Is) (fun x y H Q=>y=.non∧Q (.bl (decide (x=.non))) H):=by
 intro pins s σ H x y v u Q I rx ry h
 obtain ⟨rfl,q⟩:=h
 cases ry
 refine is_none_gen (fin_bl I q ?_)
 cases x <;> first
  | (cases rx;rfl)
  | (obtain ⟨t,rfl⟩:=rx;rfl)
theorem op_notN:OpR X (compareOp .IsNot) (fun x y H Q=>y=.non∧Q (.bl (!decide (x=.non))) H):=by
 intro pins s σ H x y v u Q I rx ry h
 obtain ⟨rfl,q⟩:=h
 cases ry
 refine isnot_none_gen (fin_bl I q ?_)
 cases x <;> first
  | (cases rx;rfl)
  | (obtain ⟨t,rfl⟩:=rx;rfl)
theorem nomark (b:Expr) {op:CmpOp} (h:op≠.In:=by decide) (h2:op≠.NotIn:=by decide):behindInMarks op b=false:=by
 have e1:(op == CmpOp.In)=false:=by cases op <;> first | rfl | exact absurd rfl h
 have e2:(op == CmpOp.NotIn)=false:=by cases op <;> first | rfl | exact absurd rfl h2
 cases b <;> simp [behindInMarks,e1,e2]
theorem pe_cmpR {op:CmpOp} {r:R2} (ho:OpR X (compareOp op) r) (ha:PE X a ta) (hb:PE X b tb) (hm:behindInMarks op b=false):PE X (.Compare a [op] [b] pos) (tOp r ta tb):=by
 intro pins s σ H Q I h
 exact wpAny_Compare1 (binT ha hb I h fun v u s2 x y H2 I2 rx ry q=>ho pins s2 σ H2 x y v u Q I2 rx ry q) hm
def tTest (t:TE):TT:=fun σ H Q=>t σ H fun x H'=>∃ k,x=.bl k∧Q k H'
theorem pt_cmpR {op:CmpOp} {r:R2} (ho:OpR X (compareOp op) r) (ha:PE X a ta) (hb:PE X b tb) (hm:behindInMarks op b=false):PT X (.Compare a [op] [b] pos) (tTest (tOp r ta tb)):=by
 intro pins s σ H Q I h
 refine wpAny_isTrue_Compare1 (thn (ha pins s σ H _ I h) fun v s1 ⟨x,H1,I1,r1,q1⟩=>thn (hb pins s1 σ H1 _ I1 q1) fun u s2 ⟨y,H2,I2,r2,q2⟩ =>
  thn (ho pins s2 σ H2 x y v u _ I2 r1 r2 q2) fun c s3 ⟨z,H3,I3,r3,k,e,q3⟩=>?_) hm
 subst e
 cases r3
 exact wpAny_truthy_bool ⟨H3,I3,q3⟩
def tChain (r r':R2) (ta tb tc:TE):TE:=fun σ H Q=>ta σ H fun x H1=>tb σ H1 fun y H2=>r x y H2 fun z H3=>∃ k,z=.bl k ∧
 (if k=true then tc σ H3 fun w' H4=>r' y w' H4 Q else Q (.bl false) H3)
theorem pt_chain {op op':CmpOp} {r r':R2} (ho:OpR X (compareOp op) r) (ho':OpR X (compareOp op') r') (ha:PE X a ta) (hb:PE X b tb) (hc:PE X c tc)
  (hm:lastMarks [op,op'] [b,c]=false:=by with_unfolding_all rfl):PT X (.Compare a [op,op'] [b,c] pos) (tTest (tChain r r' ta tb tc)):=by
 intro pins s σ H Q I h
 refine isTrue_chain (thn (ha pins s σ H _ I h) fun v s1 ⟨x,H1,I1,r1,q1⟩=>test_link (thn (hb pins s1 σ H1 _ I1 q1) fun u s2 ⟨y,H2,I2,r2,q2⟩ =>
  thn (ho pins s2 σ H2 x y v u _ I2 r1 r2 q2) fun d s3 ⟨z,H3,I3,r3,k,e,q3⟩=>?_)) hm
 subst e
 cases r3
 refine wpAny_truthy_bool ?_
 cases k with
 | false =>
  obtain ⟨k',e',q'⟩:=q3
  cases e'
  exact ite_ff ⟨H3,I3,q'⟩
 | true =>
  refine ite_tt (test_last (thn (hc pins s3 σ H3 _ I3 q3) fun w' s4 ⟨z',H4,I4,r4,q4⟩=>thn (ho' pins s4 σ H4 y z' u w' _ I4 r2 r4 q4) fun d' s5 ⟨z2,H5,I5,r5,k2,e2,q5⟩=>?_))
  subst e2
  cases r5
  exact wpAny_truthy_bool ⟨H5,I5,q5⟩
theorem line63:(sizeLine:Nat) < 2 ^ 63:=by rw [sizeLine_eq];decide
theorem vals1 {x:V} {us:List Value} (r:Vals [x] us):∃ u,us=[u]∧RelV x u:=by
 cases r with
 | cons r1 r2=>cases r2;exact ⟨_,rfl,r1⟩
theorem vals2 {x y:V} {us:List Value} (r:Vals [x,y] us):∃ u w',us=[u,w']∧RelV x u∧RelV y w':=by
 cases r with
 | cons r1 r2 =>
  cases r2 with
  | cons r3 r4=>cases r4;exact ⟨_,_,rfl,r1,r3⟩
end
end L2
namespace L2
open PySem PySem.Spec PyProof.Rows
structure ObjM (h:Heap) (x dx C:Addr) (mA:Str→Option Value):Prop where
 obj:h.get? x=some (PySem.W.instObj C dx)
 ns:h.Ns1 dx mA
 ne:dx≠x
theorem lookIn_ns {h:Heap} {dx:Addr} {mA:Str→Option Value} (n:h.Ns1 dx mA):∃ od,h.get? dx=some od∧∀ name,PySem.W.lookIn name od=some (mA name):=by
 obtain ⟨o,es,ep,ho,hd,hk,_,hm⟩:=n
 refine ⟨o,ho,fun name=>?_⟩
 have e:=hm name
 unfold nsFind findBy at e
 rw [← Array.find?_toList] at e
 unfold PySem.W.lookIn
 rw [hd]
 dsimp only
 split
 ·rename_i y q
  rw [q] at e
  exact congrArg some e
 ·rename_i q
  rw [q] at e
  have a:es.toList.any (·.refKey)=false:=by
   rw [List.any_eq_false]
   intro y hy
   obtain ⟨z,t,hkey⟩:=hk y (Array.mem_toList_iff.mp hy)
   simp [DictEntry.refKey,hkey]
  have a':¬ es.toList.any (·.refKey)=true:=by rw [a];exact Bool.false_ne_true
  rw [if_neg a']
  exact congrArg some e
theorem ObjM.look {h:Heap} {x dx C:Addr} {mA:Str→Option Value} (I:ObjM h x dx C mA):∃ od,PySem.W.InstAt h x (PySem.W.instObj C dx) C (some od)∧∀ name,PySem.W.lookIn name od=some (mA name) :=
 let ⟨od,ho,hl⟩:=lookIn_ns I.ns
 ⟨od,⟨I.obj,rfl,rfl,ho⟩,hl⟩
section
variable {prog:Program} {w:World} {A:Around} {E:Value→Shared→Prop} {s:Shared} {K:PySem.W.Frag} {x dx C f:Addr} {mA:Str→Option Value} {name:Str} {v:Value}
theorem get_map {expr:Bool} {Q:Value→Shared→Prop} (X:K.In s.heap) (I:ObjM s.heap x dx C mA) (hg:PySem.W.plainGet K C name=true) (hh:PySem.W.hasDictIn K C=true)
  (ha:PySem.W.findIn K (.ref C) name=some none) (hv:mA name=some v) (hv':PySem.W.handedIn v=true) (h:Q v { s with toks:=s.toks+1 }) :
  wpAny (model prog w) A (getAttr (.ref x) name expr) Q E s:=by
 obtain ⟨od,J,hl⟩:=I.look
 exact PySem.W.get_value X J (PySem.W.plainGet_of hg).1 (PySem.W.findObj_own hh ha rfl (by rw [hl,hv])) hv' h
theorem get_meth {pl:Sem Bool} {Q:Value×List Value→Shared→Prop} (X:K.In s.heap) (I:ObjM s.heap x dx C mA) (hg:PySem.W.plainGet K C name=true)
  (hf:PySem.W.findIn K (.ref C) name=some (some (.ref f))) (ht:PySem.W.isFn K (.ref f)=true) (hv:mA name=none) (h:Q (.ref f,[.ref x]) s) :
  wpAny (model prog w) A (getMethod (.ref x) name pl) Q E s:=by
 obtain ⟨od,J,hl⟩:=I.look
 exact PySem.W.method_fn X J (PySem.W.plainGet_of hg).1 (PySem.W.plainGet_of hg).2 hf (beq_iff_eq.mp ht) (by show (PySem.W.lookIn name od).map (·.isSome)=some false;rw [hl,hv];rfl) h
theorem set_map {ns:List Str} {Q:Unit→Shared→Prop} (X:K.In s.heap) (I:ObjM s.heap x dx C mA)
  (hs:PySem.W.findIn K (.ref C) "__setattr__"=some (some (.builtin "object.__setattr__"))) (hp:PySem.W.plainOver K C=true) (ht:PySem.W.takerIn K C name=some none) (hh:PySem.W.hasDictIn K C=true)
  (hw:PySem.Within mA ns) (hsz:ns.length≤sizeLine)
  (h:∀ h',ObjM h' x dx C (fun y=>if y=name then some v else mA y)→Heap.SameBut dx s.heap h'→Q () { s with heap:=h',toks:=s.toks+2 }) :
  wpAny (model prog w) A (setAttr (.ref x) name v) Q E s:=by
 obtain ⟨od,J,hl⟩:=I.look
 refine PySem.W.set_plain X J hs (PySem.W.osa_open (s:={ s with toks:=s.toks+1 }) (r:=none) X J hp ht fun b=>?_)
 obtain ⟨cd,hc,hd'⟩:=PySem.W.any_some hh
 have hx:s.heap.get? x=some ⟨.ref C,some dx,.plain,#[]⟩:=I.obj
 refine wpAny_bind (wpAny_pure (wpAny_bind (wpAny_bind (wpAny_loadPart hx (wpAny_bind (PySem.W.Looks.here (s:={ s with toks:=s.toks+1 }) (PySem.W.looks_clsIn X hc) ?_))))))
 rw [hd']
 refine wpAny_pure (a:=some dx) (wpAny_bind (wpAny_pure (wpAny_bind ?_)))
 refine wpAny_nsSet1 (s:={ s with toks:=s.toks+1 }) I.ns fun h' hn2 hs2=>?_
 obtain ⟨oD,esD,epD,hoD,hdD,hcD⟩:=hn2.count (PySem.Within.cons name v hw)
 refine wpAny_bind (wpAny_lookBehind hoD (by rw [hdD];exact pastItsLine_dict (Nat.le_trans hcD (by rw [List.length_cons];omega))) ?_)
 exact wpAny_pure (h _ ⟨(hs2.2 _ (Ne.symm I.ne)).trans I.obj,hn2,I.ne⟩ hs2)
theorem make_map {R:Result→Shared→Prop} {vs:List Value} {kw:List (Str×Value)} (X:K.In s.heap) (hm:PySem.W.makesIn K C=true)
  (hi:PySem.W.findIn K (.ref C) "__init__"=some (some (.ref f))) (hf:PySem.W.typeIn K (.ref f)=some (.type "function"))
  (h:codeAny (model prog w) (A.under (.builtin "type.__call__" ⟨.ref C :: vs,kw⟩)) (.call (.ref f) ⟨.ref (s.heap.objs.size+1) :: vs,kw⟩) (PySem.W.InitBack (s.heap.objs.size+1) R)
   { s with heap:=(s.heap.push PySem.W.emptyDict).push (PySem.W.instObj C s.heap.objs.size) }) :
  codeAny (model prog w) A (.call (.ref C) ⟨vs,kw⟩) R s:=by
 obtain ⟨hh,g,d,t,os⟩:=s
 exact PySem.W.make_core (PySem.W.makes_of X hm) (PySem.W.looks_findIn X hi) (fun self=>PySem.W.bind_fn X self hf) (.inl rfl) h
end
def putF (f:Str) (v:V):List (Str×V)→List (Str×V)
 | []=>[(f,v)]
 | (g,x) :: r=>if g=f then (g,v) :: r else (g,x) :: putF f v r
theorem lookup_putF (f g:Str) (v:V):∀ fs:List (Str×V),(putF f v fs).lookup g=if g=f then some v else fs.lookup g
 | []=>by
  show List.lookup g [(f,v)]=_
  by_cases h:g=f
  ·have hb:(g == f)=true:=beq_iff_eq.mpr h
   simp only [List.lookup,hb,if_pos h]
  ·have hb:(g == f)=false:=beq_eq_false_iff_ne.mpr h
   simp only [List.lookup,hb,if_neg h]
 | (k,x) :: r=>by
  have ih:=lookup_putF f g v r
  rw [show putF f v ((k,x) :: r)=(if k=f then (k,v) :: r else (k,x) :: putF f v r) from rfl]
  by_cases hk:k=f
  ·rw [if_pos hk]
   by_cases h:g=k
   ·have hb:(g == k)=true:=beq_iff_eq.mpr h
    simp only [List.lookup,hb,if_pos (h.trans hk)]
   ·have hb:(g == k)=false:=beq_eq_false_iff_ne.mpr h
    simp only [List.lookup,hb,if_neg (fun e:g=f=>h (e.trans hk.symm))]
  ·rw [if_neg hk]
   by_cases h:g=k
   ·have hb:(g == k)=true:=beq_iff_eq.mpr h
    simp only [List.lookup,hb,if_neg (fun e:g=f=>hk (h.symm.trans e))]
   ·have hb:(g == k)=false:=beq_eq_false_iff_ne.mpr h
    simp only [List.lookup,hb]
    exact ih
theorem keys_putF (f:Str) (v:V):∀ fs:List (Str×V),f∈(putF f v fs).map (·.1)∧∀ g,g∈fs.map (·.1)→g∈(putF f v fs).map (·.1)
 | []=>⟨by simp [putF],fun g h=>by simp at h⟩
 | (k,x) :: r=>by
  obtain ⟨i1,i2⟩:=keys_putF f v r
  rw [show putF f v ((k,x) :: r)=(if k=f then (k,v) :: r else (k,x) :: putF f v r) from rfl]
  by_cases hk:k=f
  ·rw [if_pos hk]
   subst hk
   exact ⟨by simp,fun g h=>by simpa using h⟩
  ·rw [if_neg hk]
   refine ⟨?_,fun g h=>?_⟩
   ·rw [List.map_cons]
    exact List.mem_cons_of_mem _ i1
   ·rw [List.map_cons] at h ⊢
    rcases List.mem_cons.mp h with e | e
    ·exact List.mem_cons.mpr (.inl e)
    ·exact List.mem_cons_of_mem _ (i2 g e)
theorem length_putF (f:Str) (v:V):∀ fs:List (Str×V),(putF f v fs).length≤fs.length+1
 | []=>by simp [putF]
 | (k,x) :: r=>by
  have ih:=length_putF f v r
  rw [show putF f v ((k,x) :: r)=(if k=f then (k,v) :: r else (k,x) :: putF f v r) from rfl]
  by_cases hk:k=f
  ·rw [if_pos hk,List.length_cons,List.length_cons];omega
  ·rw [if_neg hk,List.length_cons,List.length_cons];omega
theorem RelO.some_of {v:V} {o:Option Value} (r:RelO (some v) o):∃ u,o=some u∧RelV v u:=by
 cases o with
 | none=>exact (show False from r).elim
 | some u=>exact ⟨u,rfl,r⟩
theorem RelO.none_of {o:Option Value} (r:RelO none o):o=none:=by
 cases o with
 | none=>rfl
 | some u=>exact (show False from r).elim
theorem handed_of {v:V} {u:Value} (r:RelV v u):PySem.W.handedIn u=true:=by
 cases v with
 | non=>cases (show u=Value.none from r);rfl
 | bl b=>cases (show u=Value.bool b from r);rfl
 | int i=>obtain ⟨t,e⟩:=(show ∃ t,u=Value.int i t from r);cases e;rfl
 | str x=>obtain ⟨t,e⟩:=(show ∃ t,u=Value.str x t from r);cases e;rfl
 | byt b=>obtain ⟨t,e⟩:=(show ∃ t,u=Value.bytes b t from r);cases e;rfl
 | flt b=>obtain ⟨t,e⟩:=(show ∃ t,u=Value.float b t from r);cases e;rfl
 | ref a=>cases (show u=Value.ref a from r);rfl
 | ty n=>cases (show u=Value.type n from r);rfl
section
variable {P:Program} {w:World} {H H':Hp} {h h':Heap} {a C dx:Addr} {fs fs':List (Str×V)}
theorem ins_get (hok:HOk P w H h) (e:H a=some (.ins C dx fs)):∃ mA,ObjM h a dx C mA∧(∀ f,RelO (fs.lookup f) (mA f))∧PySem.Within mA (fs.map (·.1))∧fs.length≤1000∧H dx=some (.own a):=by
 obtain ⟨d,z,ne,ob,mA,n,r,q⟩:=(show ObjOk P w H h a (.ins C dx fs) from hok a _ e)
 exact ⟨mA,⟨ob,n,ne⟩,r,q,z,d⟩
end
structure Cls (K:PySem.W.Frag) (C:Addr):Prop where
 pg:PySem.W.plainGet K C Str.empty=true
 hd:PySem.W.hasDictIn K C=true
 po:PySem.W.plainOver K C=true
 sa:PySem.W.findIn K (.ref C) "__setattr__"=some (some (.builtin "object.__setattr__"))
theorem Cls.get {K:PySem.W.Frag} {C:Addr} (c:Cls K C) (f:Str):PySem.W.plainGet K C f=true:=c.pg
def NoAttr (K:PySem.W.Frag) (C:Addr) (f:Str):Prop:=PySem.W.findIn K (.ref C) f=some none
theorem NoAttr.taker {K:PySem.W.Frag} {C:Addr} {f:Str} (n:NoAttr K C f):PySem.W.takerIn K C f=some none:=by
 unfold PySem.W.takerIn
 rw [show PySem.W.findIn K (.ref C) f=some none from n]
 rfl
structure Meth (K:PySem.W.Frag) (C:Addr) (m:Str) (f:Addr):Prop where
 at_:PySem.W.findIn K (.ref C) m=some (some (.ref f))
 fn:PySem.W.isFn K (.ref f)=true
 kp:PySem.W.keepIn K (.ref f)=true
section
variable {X:Cx} {pins:List (Addr×Obj)} {σ:St} {H:Hp} {s:Shared} {a C dx:Addr} {fs:List (Str×V)} {f:Str} {v:V} {A:Around} {E:Value→Shared→Prop}
theorem getattr_ok {b:Bool} {Q:Value→Shared→Prop} (I:Inv X pins σ H s) (e:H a=some (.ins C dx fs)) (c:Cls X.K C) (n:NoAttr X.K C f) (l:fs.lookup f=some v)
  (h:∀ u s',Inv X pins σ H s'→RelV v u→Q u s'):wpAny (model X.prog X.w) A (getAttr (.ref a) f b) Q E s:=by
 obtain ⟨mA,O,r,_,_,_⟩:=ins_get I.hok e
 obtain ⟨u,hu,ru⟩:=RelO.some_of (v:=v) (o:=mA f) (by rw [← l];exact r f)
 exact get_map I.kIn O (c.get f) c.hd n hu (handed_of ru) (h u _ (I.tok _) ru)
theorem getmeth_ok {m:Str} {g:Addr} {pl:Sem Bool} {Q:Value×List Value→Shared→Prop} (I:Inv X pins σ H s) (e:H a=some (.ins C dx fs)) (c:Cls X.K C) (k:Meth X.K C m g) (l:fs.lookup m=none)
  (h:Q (.ref g,[.ref a]) s):wpAny (model X.prog X.w) A (getMethod (.ref a) m pl) Q E s:=by
 obtain ⟨mA,O,r,_,_,_⟩:=ins_get I.hok e
 have hn:mA m=none:=RelO.none_of (by rw [← l];exact r m)
 exact get_meth I.kIn O (c.get m) k.at_ k.fn hn h
theorem setattr_ok {y:V} {u:Value} {Q:Unit→Shared→Prop} (I:Inv X pins σ H s) (e:H a=some (.ins C dx fs)) (c:Cls X.K C) (n:NoAttr X.K C f) (hl:fs.length < 1000) (ry:RelV y u)
  (h:∀ s',Inv X pins σ (upd H a (.ins C dx (putF f y fs))) s'→Q () s'):wpAny (model X.prog X.w) A (setAttr (.ref a) f u) Q E s:=by
 obtain ⟨mA,O,r,wi,_,ho⟩:=ins_get I.hok e
 have hz:(fs.map (·.1)).length≤sizeLine:=by rw [List.length_map,sizeLine_eq];omega
 refine set_map I.kIn O c.sa c.po n.taker c.hd wi hz fun h' O' sb=>h _ ?_
 have hd:∃ o,h'.get? dx=some o:=let ⟨o,_,_,e',_⟩:=O'.ns;⟨o,e'⟩
 refine I.write (x:=a) (e:=dx) (by rw [e];exact True.intro) (.inr ho) (fun b q hb z=>(sb.2 b hb).trans z) hd ?_
 refine ⟨by rw [upd_ne O.ne];exact ho,?_,O.ne,O'.obj,_,O'.ns,fun g=>?_,fun g hg=>?_⟩
 ·have:=length_putF f y fs;omega
 ·show RelO ((putF f y fs).lookup g) (if g=f then some u else mA g)
  rw [lookup_putF]
  by_cases q:g=f
  ·rw [if_pos q,if_pos q];exact ry
  ·rw [if_neg q,if_neg q];exact r g
 ·by_cases q:g=f
  ·rw [q];exact (keys_putF f y fs).1
  ·refine (keys_putF f y fs).2 g (wi g fun z=>hg ?_)
   show (if g=f then some u else mA g)=none
   rw [if_neg q];exact z
theorem Inv.made (I:Inv X pins σ H s):Inv X pins σ (upd (upd H s.heap.objs.size (.own (s.heap.objs.size+1))) (s.heap.objs.size+1) (.ins C s.heap.objs.size []))
  { s with heap:=(s.heap.push PySem.W.emptyDict).push (PySem.W.instObj C s.heap.objs.size) }:=by
 have e1:(s.heap.push PySem.W.emptyDict).get? s.heap.objs.size=some PySem.W.emptyDict:=Heap.get?_push_size s.heap rfl
 have e2:((s.heap.push PySem.W.emptyDict).push (PySem.W.instObj C s.heap.objs.size)).get? (s.heap.objs.size+1)=some (PySem.W.instObj C s.heap.objs.size):=by
  have:=Heap.get?_push_size (s.heap.push PySem.W.emptyDict) (o:=PySem.W.instObj C s.heap.objs.size) rfl
  rwa [Heap.size_push] at this
 have e3:(s.heap.push PySem.W.emptyDict).Ns s.heap.objs.size (fun _=>none):=⟨PySem.W.emptyDict,#[],_,e1,rfl,(fun e he=>absurd he (by simp)),fun _=>rfl⟩
 have I1:=I.laid (a:=s.heap.objs.size) (o:=.own (s.heap.objs.size+1)) (h':=s.heap.push PySem.W.emptyDict) (t':=s.toks) (fun b u q=>Heap.get?_push_of_some _ q) (Nat.le_refl _) ⟨_,e1⟩
 refine I1.laid (a:=s.heap.objs.size+1) (o:=.ins C s.heap.objs.size []) (t':=s.toks) (fun b u q=>Heap.get?_push_of_some _ q) (Nat.le_of_eq (Heap.size_push _ _)) ?_
 have ne:s.heap.objs.size≠s.heap.objs.size+1:=Nat.ne_of_lt (Nat.lt_succ_self _)
 refine ⟨by rw [upd_ne ne,upd_same],Nat.zero_le _,ne,e2,fun _=>none,(Heap.Ns1.of_empty e3).at fun o q=>Heap.get?_push_of_some _ q,fun _=>True.intro,fun y hy=>absurd rfl hy⟩
theorem attr_of {prog:Program} {w:World} {env:Env} {e:Expr} {f:Str} {pos:Pos} {s:Shared} {Q:Value→Shared→Prop} (hb:attributeBase e f env (eval e env)=eval e env)
  (h:wpAny (model prog w) A (eval e env) (fun o s₁=>wpAny (model prog w) A (getAttr o f true) Q E s₁) E s):wpAny (model prog w) A (eval (.Attribute e f pos) env) Q E s :=
 Attribute_any_ h (by rw [arm_eval_Attribute,hb])
end
def tFld (K:PySem.W.Frag) (ta:TE) (f:Str):TE:=fun σ H Q=>ta σ H fun x H1=>∃ a C dx fs v,x=.ref a∧H1 a=some (.ins C dx fs)∧Cls K C∧NoAttr K C f∧fs.lookup f=some v∧Q v H1
def sFld (K:PySem.W.Frag) (ta tv:TE) (f:Str):TS:=fun D σ H=>tv σ H fun y H1=>ta σ H1 fun x H2=>∃ a C dx fs,x=.ref a∧H2 a=some (.ins C dx fs)∧Cls K C∧NoAttr K C f∧fs.length < 1000 ∧
 D.nx σ (upd H2 a (.ins C dx (putF f y fs)))
def InOp (X:Cx) (op:Operator) (rd:V→V→Hp→VK→Prop):Prop :=
 ∀ (pins:List (Addr×Obj)) (s:Shared) (σ:St) (H:Hp) (x y:V) (u v:Value) (Q:VK),Inv X pins σ H s→RelV x u→RelV y v→rd x y H Q→wpAny (model X.prog X.w) X.A (inplaceOp op u v) (EP X pins σ Q) X.xe s
def sFldAug (K:PySem.W.Frag) (ta tv:TE) (rd:V→V→Hp→VK→Prop) (f:Str):TS:=fun D σ H=>ta σ H fun x H1=>∃ a C dx fs v,x=.ref a∧H1 a=some (.ins C dx fs)∧Cls K C∧NoAttr K C f∧fs.lookup f=some v ∧
 tv σ H1 fun y H2=>rd v y H2 fun z H3=>∃ dx' fs',H3 a=some (.ins C dx' fs')∧fs'.length < 1000∧D.nx σ (upd H3 a (.ins C dx' (putF f z fs')))
section
variable {X:Cx} {o e value:Expr} {f:Str} {pos pos' tpos:Pos} {ta tv:TE}
theorem pe_fld (he:PE X e ta) (hb:attributeBase e f X.env (eval e X.env)=eval e X.env):PE X (.Attribute e f pos) (tFld X.K ta f):=by
 intro pins s σ H Q I h
 refine attr_of hb (thn (he pins s σ H _ I h) fun u s1 ⟨x,H1,I1,rx,a,C,dx,fs,v,ex,ea,c,n,l,q⟩=>?_)
 subst ex
 obtain rfl:u=Value.ref a:=rx
 exact getattr_ok I1 ea c n l fun u' s2 I2 ru=>⟨v,H1,I2,ru,q⟩
theorem ps_fld (ha:PE X o ta) (hv:PE X value tv) (hs:swapsWith value (some (.Attribute o f pos')) pos.line X.env=pure false):PS X (.Assign [.Attribute o f pos'] value pos) (sFld X.K ta tv f):=by
 intro pins s σ H D I h
 refine plainObj_wpAny_Assign_Attribute (thn (hv pins s σ H _ I h) fun u s1 ⟨y,H1,I1,ry,q⟩=>thn (ha pins s1 σ H1 _ I1 q) fun ov s2 ⟨x,H2,I2,rx,a,C,dx,fs,ex,ea,c,n,l,q2⟩=>?_) hs
 subst ex
 obtain rfl:ov=Value.ref a:=rx
 exact setattr_ok I2 ea c n l ry fun s3 I3=>⟨σ,_,I3,q2⟩
theorem ps_fldaug {op:Operator} {rd:V→V→Hp→VK→Prop} (ha:PE X o ta) (hv:PE X value tv) (hop:InOp X op rd):PS X (.AugAssign (.Attribute o f tpos) op value pos) (sFldAug X.K ta tv rd f):=by
 intro pins s σ H D I h
 refine wpAny_AugAssign_AttributeAny (thn (ha pins s σ H _ I h) fun ov s1 ⟨x,H1,I1,rx,a,C,dx,fs,v,ex,ea,c,n,l,q⟩=>?_)
 subst ex
 obtain rfl:ov=Value.ref a:=rx
 refine getattr_ok I1 ea c n l fun u s2 I2 ru=>thn (hv pins s2 σ H1 _ I2 q) fun w3 s3 ⟨y,H2,I3,ry,q3⟩=>thn (hop pins s3 σ H2 v y u w3 _ I3 ru ry q3) fun w4 s4 ⟨z,H3,I4,rz,dx',fs',ea',l',q4⟩=>?_
 exact setattr_ok I4 ea' c n l' rz fun s5 I5=>⟨σ,_,I5,q4⟩
def rAdd:V→V→Hp→VK→Prop:=fun x y H Q=>∃ i j,x=.int i∧y=.int j∧Q (.int (i+j)) H
theorem in_add:InOp X .Add rAdd:=by
 rintro pins s σ H x y u v Q I rx ry ⟨i,j,rfl,rfl,q⟩
 obtain ⟨t,rfl⟩:=(show ∃ t,u=Value.int i t from rx)
 obtain ⟨t',rfl⟩:=(show ∃ t',v=Value.int j t' from ry)
 exact PyProof.Rows.iadd_int ⟨.int (i+j),H,I.tok _,⟨_,rfl⟩,q⟩
end
section
variable {X:Cx} {pins:List (Addr×Obj)} {σ:St} {H:Hp} {s:Shared} {A:Around} {E:Value→Shared→Prop} {Q:Value→Shared→Prop} {c:Value} {b:Bool}
end
end L2
namespace L2
open PySem PySem.Spec PyProof.Rows
structure Room (k:Nat) (A:Around):Prop where
 hd:A.handled=none
 dp:A.depth+3 * k+5 < recursionLimit
 un:A.units+16 * k+200 < cLine
theorem Room.mono {j k:Nat} {A:Around} (r:Room k A) (h:j≤k):Room j A:=⟨r.hd,by have:=r.dp;omega,by have:=r.un;omega⟩
theorem Room.deeper {k:Nat} {A:Around} (r:Room (k+1) A) (env:Env):Room k (A.deeper env) :=
 ⟨r.hd,by have:=r.dp;show A.depth+1+3 * k+5 < _;omega,by have:=r.un;show A.units+3+16 * k+200 < _;omega⟩
theorem make_depth {A:Around} {C:Addr} {us:List Value} {kw:List (Str×Value)}:(A.under (.builtin "type.__call__" ⟨.ref C :: us,kw⟩)).depth=A.depth+1:=by
 first | rfl | simp [Around.under,Code.weight,Code.isCreation,Code.isGuard,Code.isCaller,Code.frames,Code.isFrame,guardIds]
theorem make_units {A:Around} {C:Addr} {us:List Value} {kw:List (Str×Value)}:(A.under (.builtin "type.__call__" ⟨.ref C :: us,kw⟩)).units=A.units+1:=by
 first | rfl | simp [Around.under,Code.cUnits,Code.frames,Code.isFrame]
theorem Room.make {k:Nat} {A:Around} (r:Room (k+1) A) (C:Addr) (us:List Value) (kw:List (Str×Value)):Room k (A.under (.builtin "type.__call__" ⟨.ref C :: us,kw⟩)) :=
 ⟨r.hd,by have:=r.dp;rw [make_depth];omega,by have:=r.un;rw [make_units];omega⟩
theorem Room.depth {k:Nat} {A:Around} (r:Room k A):A.depth < recursionLimit:=by have:=r.dp;omega
theorem Room.units {k:Nat} {A:Around} (r:Room k A):A.units+64 < cLine:=by have:=r.un;omega
def tNil:TA:=fun _ H Q=>Q [] H
def tCons (ta:TE) (tr:TA):TA:=fun σ H Q=>ta σ H fun x H1=>tr σ H1 fun xs H2=>Q (x :: xs) H2
section
variable {X:Cx} {e:Expr} {es:List Expr} {te:TE} {t:TA} {pos:Pos}
theorem pa_nil:PA X [] tNil:=fun _ _ _ _ H Q I h=>Calls.spliced_nil ⟨[],H,I,.nil,h⟩
theorem pa_cons (ha:PE X e te) (hr:PA X es t) (hs:starEach (e :: es) X.env=(false,eval e X.env) :: starEach es X.env:=by rfl):PA X (e :: es) (tCons te t):=by
 intro pos pins s σ H Q I h
 rw [hs]
 show wpAny _ _ (spliced ((false,eval e X.env) :: backTo pos (starEach es X.env))) _ _ s
 refine Calls.spliced_cons (thn (ha pins s σ H _ I h) fun u s1 ⟨x,H1,I1,r1,q1⟩=>?_)
 exact thn (hr pos pins s1 σ H1 _ I1 q1) fun us s2 ⟨xs,H2,I2,r2,q2⟩=>⟨x :: xs,H2,I2,.cons r1 r2,q2⟩
def tTup (t:TA):TE:=fun σ H Q=>t σ H fun xs H1=>xs.length≤sizeLine∧∀ p,H1 p=none→Q (.ref p) (upd H1 p (.tup xs))
def tLst (t:TA):TE:=fun σ H Q=>t σ H fun xs H1=>xs.length≤sizeLine∧∀ p,H1 p=none→Q (.ref p) (upd H1 p (.lst xs))
theorem pe_tup {x1} (h:PA X es t):PE X (.Tuple es x1 pos) (tTup t):=by
 intro pins s σ H Q I hq
 refine wpAny_Tuple_spliced (thn (h pos pins s σ H _ I hq) fun us s1 ⟨xs,H1,I1,r,z,q⟩=>⟨by rw [← r.length];exact z,?_⟩)
 have hf:H1 s1.heap.objs.size=none:=I1.hok.fresh (Nat.le_refl _)
 refine ⟨.ref s1.heap.objs.size,upd H1 s1.heap.objs.size (.tup xs),I1.laid (t':=s1.toks) (fun b u e=>Heap.get?_push_of_some _ e) (Nat.le_refl _) ?_,rfl,q _ hf⟩
 exact ⟨z,us,r,⟨_,Heap.get?_push_size _ rfl,rfl,_,rfl⟩⟩
theorem pe_lst (h:PA X es t):PE X (.List es pos) (tLst t):=by
 intro pins s σ H Q I hq
 refine wpAny_List_spliced (thn (h pos pins s σ H _ I hq) fun us s1 ⟨xs,H1,I1,r,z,q⟩=>⟨by rw [← r.length];exact z,?_⟩)
 have hf:H1 s1.heap.objs.size=none:=I1.hok.fresh (Nat.le_refl _)
 refine ⟨.ref s1.heap.objs.size,upd H1 s1.heap.objs.size (.lst xs),I1.laid (t':=s1.toks) (fun b u e=>Heap.get?_push_of_some _ e) (Nat.le_refl _) ?_,rfl,q _ hf⟩
 exact ⟨z,us,0,r,Heap.get?_push_size _ rfl⟩
end
abbrev Sp:=List V→Hp→VK→XK→Prop
abbrev CXT:=List Env→Hp→Shared→XK→Value→Shared→Prop
structure Env0 (P:Program) (w:World) (K:PySem.W.Frag) (mg:Str→Option Value) (base:Heap) (A:Around) (outer:List Env) (s:Shared) (H:Hp):Prop where
 frames:A.frames=some outer
 mod:Mod K mg base
 bs:∀ b o,base.get? b=some o→s.heap.get? b=some o∧H b=none
 bsz:base.objs.size≤s.heap.objs.size
 funs:s.heap.FunFrames base outer
 frf:∀ b∈frs outer,H b=none
 hok:HOk P w H s.heap
 bare:AllBare s.gens
def CE (outer:List Env) (P:Program) (w:World) (H:Hp) (s:Shared) (Q:VK) (u:Value) (s':Shared):Prop :=
 ∃ v H',s'.os=s.os∧AllBare s'.gens∧Un (frs outer) [] H H' s.heap s'.heap∧HOk P w H' s'.heap∧RelV v u∧Q v H'
def CR (CX:CXT) (outer:List Env) (P:Program) (w:World) (H:Hp) (s:Shared) (Q:VK) (E:XK) (r:Result) (s':Shared):Prop :=
 match r with
 | .ok (.ret u)=>CE outer P w H s Q u s'
 | .ok _=>False
 | .error e=>CX outer H s E e s'
structure FnOk (P:Program) (w:World) (K:PySem.W.Frag) (mg:Str→Option Value) (base:Heap) (CX:CXT) (k:Nat) (f:Addr) (fd:FuncData) (ps:List Str) (sp:Sp):Prop where
 len:∀ vs H Q E,sp vs H Q E→vs.length=ps.length
 run:∀ (A:Around) (outer:List Env) (s:Shared) (H:Hp) (args:Args) (us:List Value) (vs:List V) (Q:VK) (E:XK),Room k A→Env0 P w K mg base A outer s H→BindsTo s fd args (ps.zip us)→Vals vs us→sp vs H Q E →
  codeAny (model P w) A (.call (.ref f) args) (CR CX outer P w H s Q E) s
theorem Env0.make {P:Program} {w:World} {K:PySem.W.Frag} {mg:Str→Option Value} {base:Heap} {A:Around} {outer:List Env} {s:Shared} {H:Hp} (e:Env0 P w K mg base A outer s H) (C:Addr) (us:List Value) (kw:List (Str×Value)) :
  Env0 P w K mg base (A.under (.builtin "type.__call__" ⟨.ref C :: us,kw⟩)) outer s H:=⟨by first | exact e.frames | (simpa [Around.under,Code.envs,Code.isFrame,pushEnvs] using e.frames),e.mod,e.bs,e.bsz,e.funs,e.frf,e.hok,e.bare⟩
section
variable {X:Cx} {pins:List (Addr×Obj)} {σ:St} {H:Hp} {s s':Shared}
theorem Inv.env0 (I:Inv X pins σ H s):Env0 X.prog X.w X.K X.mg X.base X.A X.stack s H :=
 ⟨I.ok.frames,I.ok.mod,I.bs,Nat.le_trans I.ok.bsz I.sz,I.stack,I.stkFree,I.hok,I.bare⟩
theorem Inv.after {Q:VK} {u:Value} (I:Inv X pins σ H s) (h:CE X.stack X.prog X.w H s Q u s'):EP X pins σ Q u s':=by
 obtain ⟨v,H',os,bare,un,hok,r,q⟩:=h
 obtain ⟨hh,g,d,t,os'⟩:=s'
 obtain rfl:os'=s.os:=os
 exact ⟨v,H',I.call (h':=hh) (g':=g) (d':=d) (t':=t) (ch:=[]) un hok bare (fun b z=>absurd z (by simp)),r,q⟩
end
def tCall (sp:Sp) (dvs:List V) (E:XK) (t:TA):TE:=fun σ H Q=>t σ H fun vs H1=>sp (vs++dvs) H1 Q E
def tMeth (C:Addr) (m:Str) (sp:Sp) (dvs:List V) (E:XK) (ta:TE) (t:TA):TE:=fun σ H Q=>ta σ H fun x H1=>∃ a dx fs,x=.ref a∧H1 a=some (.ins C dx fs)∧fs.lookup m=none ∧
 t σ H1 fun vs H2=>sp (x :: (vs++dvs)) H2 Q E
def tMake (C:Addr) (sp:Sp) (dvs:List V) (E:XK) (t:TA):TE:=fun σ H Q=>t σ H fun vs H1=>∀ x dx,H1 x=none→H1 dx=none→dx≠x →
 sp (.ref x :: (vs++dvs)) (upd (upd H1 dx (.own x)) x (.ins C dx [])) (fun v H2=>v=.non∧Q (.ref x) H2) E
def Binds (K:PySem.W.Frag) (fd:FuncData) (ps:List Str) (ds:List Value):Prop :=
 ∀ (s:Shared) (us:List Value),K.In s.heap→(us++ds).length=ps.length→BindsTo s fd ⟨us,[]⟩ (ps.zip (us++ds))
theorem Binds.all {K:PySem.W.Frag} {fd:FuncData} {ps:List Str} (h:∀ us:List Value,us.length=ps.length→bindArgs fd ⟨us,[]⟩=pure (ps.zip us)):Binds K fd ps []:=fun s us _ hl=>by
 rw [List.append_nil] at hl ⊢
 exact .of_eq (h us hl)
def Passes (CX:CXT) (X:Cx) (E:XK):Prop:=∀ (pins:List (Addr×Obj)) (σ:St) (H:Hp) (s:Shared) (e:Value) (s':Shared),Inv X pins σ H s→CX X.stack H s E e s'→X.xe e s'
section
variable {X:Cx} {CX:CXT} {k:Nat} {f C:Addr} {fd:FuncData} {ps:List Str} {sp:Sp} {dvs:List V} {ds:List Value} {E:XK} {x m:Str} {p pos apos:Pos} {e o:Expr} {es:List Expr} {ta:TE} {t:TA}
theorem run_fn {pins:List (Addr×Obj)} {σ:St} {H:Hp} {s:Shared} {Q:VK} {us:List Value} {vs:List V} (F:FnOk X.prog X.w X.K X.mg X.base CX k f fd ps sp) (hr:Room k X.A) (hb:Binds X.K fd ps ds) (hd:Vals dvs ds) (hx:Passes CX X E)
  (I:Inv X pins σ H s) (r:Vals vs us) (h:sp (vs++dvs) H Q E):wpAny (model X.prog X.w) X.A (call (.ref f) us) (EP X pins σ Q) X.xe s:=by
 have r2:Vals (vs++dvs) (us++ds):=r.append hd
 have hl:(us++ds).length=ps.length:=by rw [← r2.length];exact F.len _ _ _ _ h
 refine wpAny_call (codeAny_mono (F.run X.A X.stack s H ⟨us,[]⟩ (us++ds) (vs++dvs) Q E hr I.env0 (hb s us I.kIn hl) r2 h) fun r s' hq=>?_)
 cases r with
 | error e=>exact hx pins σ H s e s' I hq
 | ok fl =>
  cases fl with
  | ret u=>exact I.after hq
  | next=>exact False.elim hq
  | brk=>exact False.elim hq
  | cont=>exact False.elim hq
theorem pe_call (F:FnOk X.prog X.w X.K X.mg X.base CX k f fd ps sp) (hr:Room k X.A) (hg:Gl X x) (hm:X.mg x=some (.ref f)) (hk:PySem.W.keepIn X.K (.ref f)=true) (hb:Binds X.K fd ps ds) (hd:Vals dvs ds) (hx:Passes CX X E)
  (ha:PA X (e :: es) t) (hdb:(x == ("__debug__":Str))=false:=by decide) (he:starEach (e :: es) X.env=(false,eval e X.env) :: starEach es X.env:=by rfl) (hpl:(backTo pos (starEach es X.env)).any (·.1)=false:=by rfl) :
  PE X (.Call (.Name x p) (e :: es) [] pos) (tCall sp dvs E t):=by
 intro pins s σ H Q I h
 refine wpAny_Call_Name_kw (ld_glob I hg hm ?_ hdb)
 refine PySem.W.callWith_K (h₀:=X.base) I.ok.mod.kin hk (thn (ha pos pins s σ H _ I h) fun us s1 ⟨vs,H1,I1,r,q⟩=>⟨I1.kIn,?_⟩) he hpl
 exact run_fn F hr hb hd hx I1 r q
theorem pe_meth {pl:Sem Bool} (he:PE X o ta) (c:Cls X.K C) (hm:Meth X.K C m f) (F:FnOk X.prog X.w X.K X.mg X.base CX k f fd ps sp) (hr:Room k X.A) (hb:Binds X.K fd ps ds) (hd:Vals dvs ds) (hx:Passes CX X E) (ha:PA X (e :: es) t)
  (hst:starEach (e :: es) X.env=(false,eval e X.env) :: starEach es X.env:=by rfl) (hpl:(backTo pos (starEach es X.env)).any (·.1)=false:=by rfl)
  (ht:eval (.Call (.Attribute o m apos) (e :: es) [] pos) X.env=(do
   let ov ← eval o X.env
   standAt apos.atName
   let (f,first) ← holding [ov] (getMethod ov m pl)
   callWith pos f first (backTo pos (starEach (e :: es) X.env)) (backToKw pos (keywordEach [] X.env))):=by rfl) :
  PE X (.Call (.Attribute o m apos) (e :: es) [] pos) (tMeth C m sp dvs E ta t):=by
 intro pins s σ H Q I h
 refine PySem.W.methodCall_KW (pl:=pl) (thn (he pins s σ H _ I h) fun u s1 ⟨x,H1,I1,rx,a,dx,fs,ex,ea,l,q⟩=>?_) ht
 subst ex
 obtain rfl:u=Value.ref a:=rx
 refine getmeth_ok I1 ea c hm l ?_
 refine PySem.W.callWith_K (first:=[.ref a]) (h₀:=X.base) I.ok.mod.kin hm.kp (thn (ha pos pins s1 σ H1 _ I1 q) fun us s2 ⟨vs,H2,I2,r,q2⟩=>⟨I2.kIn,?_⟩) hst hpl
 exact run_fn (us:=.ref a :: us) (vs:=.ref a :: vs) F hr hb hd hx I2 (.cons rfl r) q2
theorem pe_meth0 {pl:Sem Bool} (he:PE X o ta) (c:Cls X.K C) (hm:Meth X.K C m f) (F:FnOk X.prog X.w X.K X.mg X.base CX k f fd ps sp) (hr:Room k X.A) (hb:Binds X.K fd ps ds) (hd:Vals dvs ds) (hx:Passes CX X E)
  (ht:eval (.Call (.Attribute o m apos) [] [] pos) X.env=(do
   let ov ← eval o X.env
   standAt apos.atName
   let (f,first) ← holding [ov] (getMethod ov m pl)
   callWith pos f first (backTo pos (starEach [] X.env)) (backToKw pos (keywordEach [] X.env))):=by rfl) :
  PE X (.Call (.Attribute o m apos) [] [] pos) (tMeth C m sp dvs E ta tNil):=by
 intro pins s σ H Q I h
 refine PySem.W.methodCall_KW (pl:=pl) (thn (he pins s σ H _ I h) fun u s1 ⟨x,H1,I1,rx,a,dx,fs,ex,ea,l,q⟩=>?_) ht
 subst ex
 obtain rfl:u=Value.ref a:=rx
 refine getmeth_ok I1 ea c hm l ?_
 exact PySem.W.callWith_K0 (first:=[.ref a]) I1.kIn hm.kp (run_fn (us:=[.ref a]) (vs:=[.ref a]) F hr hb hd hx I1 (.cons rfl .nil) q)
structure Mk (K:PySem.W.Frag) (C f:Addr):Prop where
 makes:PySem.W.makesIn K C=true
 init:PySem.W.findIn K (.ref C) "__init__"=some (some (.ref f))
 fn:PySem.W.isFn K (.ref f)=true
 kp:PySem.W.keepIn K (.ref C)=true
theorem run_make {pins:List (Addr×Obj)} {σ:St} {H:Hp} {s:Shared} {Q:VK} {us:List Value} {vs:List V} (M:Mk X.K C f) (F:FnOk X.prog X.w X.K X.mg X.base CX k f fd ps sp) (hr:Room (k+1) X.A) (hb:Binds X.K fd ps ds) (hd:Vals dvs ds)
  (hx:Passes CX X E) (I:Inv X pins σ H s) (r:Vals vs us)
  (h:∀ x dx,H x=none→H dx=none→dx≠x→sp (.ref x :: (vs++dvs)) (upd (upd H dx (.own x)) x (.ins C dx [])) (fun v H2=>v=.non∧Q (.ref x) H2) E) :
  wpAny (model X.prog X.w) X.A (call (.ref C) us) (EP X pins σ Q) X.xe s:=by
 have hq:=h (s.heap.objs.size+1) s.heap.objs.size (I.hok.fresh (Nat.le_succ _)) (I.hok.fresh (Nat.le_refl _)) (Nat.ne_of_lt (Nat.lt_succ_self _))
 have I2:=Inv.made (C:=C) I
 have r2:Vals (V.ref (s.heap.objs.size+1) :: (vs++dvs)) (Value.ref (s.heap.objs.size+1) :: (us++ds)):=.cons rfl (r.append hd)
 have hl:(Value.ref (s.heap.objs.size+1) :: us++ds).length=ps.length:=by
  have e:=r2.length
  rw [F.len _ _ _ _ hq] at e
  exact e.symm
 refine wpAny_call (make_map (f:=f) I.kIn M.makes M.init (beq_iff_eq.mp M.fn) (codeAny_mono (F.run _ X.stack _ _ ⟨Value.ref (s.heap.objs.size+1) :: us,[]⟩ (Value.ref (s.heap.objs.size+1) :: (us++ds)) _ _ E (hr.make C us [])
  (I2.env0.make C us []) (hb _ (Value.ref (s.heap.objs.size+1) :: us) I2.kIn hl) r2 hq) fun r s' hq'=>?_))
 cases r with
 | error e=>exact hx pins σ _ _ e s' I2 hq'
 | ok fl =>
  cases fl with
  | ret u =>
   obtain ⟨v,H',I3,rv,ev,q3⟩:=I2.after hq'
   subst ev
   exact ⟨rv,⟨V.ref (s.heap.objs.size+1),H',I3,rfl,q3⟩⟩
  | next=>exact False.elim hq'
  | brk=>exact False.elim hq'
  | cont=>exact False.elim hq'
theorem pe_make (M:Mk X.K C f) (F:FnOk X.prog X.w X.K X.mg X.base CX k f fd ps sp) (hr:Room (k+1) X.A) (hg:Gl X x) (hm:X.mg x=some (.ref C)) (hb:Binds X.K fd ps ds) (hd:Vals dvs ds) (hx:Passes CX X E)
  (ha:PA X (e :: es) t) (hdb:(x == ("__debug__":Str))=false:=by decide) (he:starEach (e :: es) X.env=(false,eval e X.env) :: starEach es X.env:=by rfl) (hpl:(backTo pos (starEach es X.env)).any (·.1)=false:=by rfl) :
  PE X (.Call (.Name x p) (e :: es) [] pos) (tMake C sp dvs E t):=by
 intro pins s σ H Q I h
 refine wpAny_Call_Name_kw (ld_glob I hg hm ?_ hdb)
 refine PySem.W.callWith_K (h₀:=X.base) I.ok.mod.kin M.kp (thn (ha pos pins s σ H _ I h) fun us s1 ⟨vs,H1,I1,r,q⟩=>⟨I1.kIn,?_⟩) he hpl
 exact run_make M F hr hb hd hx I1 r q
end
section
variable {X:Cx} {CX:CXT} {k:Nat} {f C:Addr} {fd:FuncData} {ps ks:List Str} {sp:Sp} {E:XK} {x m:Str} {p pos apos kpos:Pos} {e o:Expr} {es:List Expr} {kws:List Keyword} {te ta:TE} {t tk:TA} {nm:Option Str}
variable {g:List Value→List Value→List Value} {gV:List V→List V→List V}
end
structure FnScope (N P:List Str) (sc:Scope):Prop where
 kind:sc.kind=.function
 co:sc.isCoroutine=false
 gen:sc.isGenerator=false
 nd:N.Nodup
 pre:N.take P.length=P
 par:∀ x∈P,sc.names.lookup x=some .local∨sc.names.lookup x=some .cell
 nofree:∀ y∈sc.names,y.2≠.free
theorem bindL_out {kindOf:Str→Option NameKind} {x:Str}:∀ {binds:List (Str×Value)} {m:Str→Option Value},(∀ v,(x,v)∉binds)→bindL kindOf binds m x=m x
 | [],_,_=>rfl
 | (n,v) :: r,m,h=>by
  unfold bindL
  rw [bindL_out fun w hw=>h w (List.mem_cons_of_mem _ hw)]
  split
  ·have:x≠n:=by rintro rfl;exact h v List.mem_cons_self
   simp [this]
  ·rfl
theorem bindC_out {kindOf:Str→Option NameKind} {x:Str}:∀ {binds:List (Str×Value)} {m:Str→Option Value},(∀ v,(x,v)∉binds)→bindC kindOf binds m x=m x
 | [],_,_=>rfl
 | (n,v) :: r,m,h=>by
  unfold bindC
  rw [bindC_out fun w hw=>h w (List.mem_cons_of_mem _ hw)]
  split
  ·rfl
  ·have:x≠n:=by rintro rfl;exact h v List.mem_cons_self
   simp [this]
theorem bindL_get {kindOf:Str→Option NameKind} {x:Str} {v:Value}:∀ {P:List Str} {vs:List Value} {i:Nat} {m:Str→Option Value},P.Nodup→P[i]?=some x→vs[i]?=some v→kindOf x=some .local →
  bindL kindOf (P.zip vs) m x=some v
 | [],_,_,_,_,h,_,_=>by simp at h
 | _ :: _,[],_,_,_,_,h,_=>by simp at h
 | p :: P,w :: vs,0,m,nd,h1,h2,hk=>by
  simp at h1 h2;subst h1;subst h2
  show bindL kindOf ((p,w) :: P.zip vs) m p=_
  unfold bindL
  rw [bindL_out fun v hv=>(List.nodup_cons.mp nd).1 (List.of_mem_zip hv).1,if_pos hk]
  simp
 | p :: P,w :: vs,i+1,m,nd,h1,h2,hk=>by
  show bindL kindOf ((p,w) :: P.zip vs) m x=_
  unfold bindL
  exact bindL_get (i:=i) (List.nodup_cons.mp nd).2 (by simpa using h1) (by simpa using h2) hk
theorem bindC_get {kindOf:Str→Option NameKind} {x:Str} {v:Value}:∀ {P:List Str} {vs:List Value} {i:Nat} {m:Str→Option Value},P.Nodup→P[i]?=some x→vs[i]?=some v→kindOf x≠some .local →
  bindC kindOf (P.zip vs) m x=some v
 | [],_,_,_,_,h,_,_=>by simp at h
 | _ :: _,[],_,_,_,_,h,_=>by simp at h
 | p :: P,w :: vs,0,m,nd,h1,h2,hk=>by
  simp at h1 h2;subst h1;subst h2
  show bindC kindOf ((p,w) :: P.zip vs) m p=_
  unfold bindC
  rw [bindC_out fun v hv=>(List.nodup_cons.mp nd).1 (List.of_mem_zip hv).1,if_neg hk]
  simp
 | p :: P,w :: vs,i+1,m,nd,h1,h2,hk=>by
  show bindC kindOf ((p,w) :: P.zip vs) m x=_
  unfold bindC
  exact bindC_get (i:=i) (List.nodup_cons.mp nd).2 (by simpa using h1) (by simpa using h2) hk
def start (N:List Str) (vs:List V):St:=vs.map some++List.replicate (N.length - vs.length) none
def cxOf (CX:CXT) (P:Program) (w:World) (K:PySem.W.Frag) (mg:Str→Option Value) (base:Heap) (N:List Str) (qual:Str) (scope:Scope) (f:Addr) (cd:Value) (A:Around) (outer:List Env) (s:Shared) (H:Hp) (E:XK):Cx where
 prog:=P
 w:=w
 K:=K
 mg:=mg
 base:=base
 A:=A.deeper (envOfC qual scope s.heap.objs.size f cd)
 N:=N
 s₀:=s
 H₀:=H
 env:=envOfC qual scope s.heap.objs.size f cd
 outer:=outer
 stack:=envOfC qual scope s.heap.objs.size f cd :: outer
 ex:=[]
 calm:=true
 fn:=fun _=>true
 pn:=[]
 xe:=fun e s'=>wpAny (model P w) (A.deeper (envOfC qual scope s.heap.objs.size f cd)) (leaving (envOfC qual scope s.heap.objs.size f cd) e) (fun _ s''=>CX outer H s E e s'') (fun e' s''=>CX outer H s E e' s'') s'
theorem cell_has {sc:Scope} {n:Nat} {x:Str} (h:sc.names.lookup x=some .cell):∃ c,(cellsFrom n sc.names []).lookup x=some c:=by
 have q:=PySem.W.cellsFrom_some sc.names n [] (.inl h)
 exact Option.isSome_iff_exists.mp q
theorem inv_start {CX:CXT} {P:Program} {w:World} {K:PySem.W.Frag} {mg:Str→Option Value} {base:Heap} {N ps:List Str} {qual:Str} {scope:Scope} {f:Addr} {cd:Value} {A:Around} {outer:List Env} {s s1:Shared} {H:Hp} {E:XK} {us:List Value} {vs:List V}
  (S:FnScope N ps scope) (hd:A.handled=none) (e0:Env0 P w K mg base A outer s H) (hl:vs.length=ps.length) (r:Vals vs us)
  (x:InCallC s s.heap.objs.size (bindL (envOfC qual scope s.heap.objs.size f cd).kindOf (ps.zip us) fun _=>none) (cellsFrom (s.heap.objs.size+1) scope.names []) (bindC (envOfC qual scope s.heap.objs.size f cd).kindOf (ps.zip us) fun _=>none) s1) :
  Inv (cxOf CX P w K mg base N qual scope f cd A outer s H E) [] (start N vs) H s1:=by
 have hpl:ps.length≤N.length:=by have:=congrArg List.length S.pre;rw [List.length_take] at this;omega
 obtain ⟨h1,tk,rfl,hk⟩:=x.done
 have noA:∀ b:Addr,b∉(cxOf CX P w K mg base N qual scope f cd A outer s H E).ex:=fun b z=>absurd (show b∈([]:List Addr) from z) (by simp)
 refine ⟨⟨e0.mod,S.kind,rfl,rfl,Nat.le_refl _,fun y z c h1 h2=>?_,fun y hy=>?_,fun y c _ h=>?_,fun _=>hd,Around.frames_deeper e0.frames,.inr ⟨rfl,rfl⟩,fun b z=>absurd z (noA b),e0.bs,e0.bsz,fun b _ _=>noA b,fun b z=>absurd z (noA b),e0.funs,e0.frf⟩,
  rfl,e0.bare,Un.kept hk,⟨_,x.toInCall.ns,fun i y v h1 h2 h3=>?_⟩,fun y c h=>⟨_,x.cell y c h⟩,e0.hok.fresh (Nat.le_refl _),fun y c h=>?_,fun p hp=>absurd (show p∈([]:List (Addr×Obj)) from hp) (by simp),e0.hok.kept hk,?_⟩
 ·exact name_of_addr x.apart (PySem.mem_of_lookup h1) (PySem.mem_of_lookup h2)
 ·have hy:scope.names.lookup y=some .cell∨scope.names.lookup y=some .free:=hy
  rcases hy with hy | hy
  ·exact cell_has hy
  ·exact absurd rfl (S.nofree _ (PySem.mem_of_lookup hy))
 ·exact Nat.le_of_lt (x.above y c (PySem.mem_of_lookup h))
 ·have hi:i < vs.length:=by
   unfold start at h2
   by_cases hi:i < vs.length
   ·exact hi
   ·rw [List.getElem?_append_right (by simpa using hi)] at h2
    rw [List.getElem?_replicate] at h2
    split at h2 <;> cases h2
  have ha:vs[i]?=some v:=by
   unfold start at h2
   rw [List.getElem?_append_left (by simpa using hi),List.getElem?_map] at h2
   cases e:vs[i]? with
   | none=>rw [e] at h2;cases h2
   | some a=>rw [e] at h2;cases h2;rfl
  obtain ⟨u,hu,rv⟩:=r.get ha
  have hp:ps[i]?=some y:=by
   rw [← S.pre,List.getElem?_take_of_lt (by omega)];exact h1
  have ndP:ps.Nodup:=by rw [← S.pre];exact S.nd.sublist (List.take_sublist _ _)
  refine ⟨u,rv,?_⟩
  rcases S.par y (List.mem_of_getElem? hp) with k | k
  ·exact .inl ⟨k,bindL_get ndP hp hu k⟩
  ·obtain ⟨c,e⟩:=cell_has (n:=s.heap.objs.size+1) k
   refine .inr ⟨.inl k,c,e,?_⟩
   have q:=x.cell y c e
   rw [bindC_get ndP hp hu (by show scope.names.lookup y≠_;rw [k];decide)] at q
   exact q
 ·exact e0.hok.fresh (Nat.le_of_lt (x.above y c (PySem.mem_of_lookup h)))
 ·unfold start
  show _=N.length
  rw [List.length_append,List.length_map,List.length_replicate]
  omega
theorem fn_of {CX:CXT} {P:Program} {w:World} {K:PySem.W.Frag} {mg:Str→Option Value} {base:Heap} {k:Nat} {f:Addr} {name qual:Str} {params:Arguments} {body:List Stmt} {scope:Scope} {dV kV doc pm cdv ct oc:Value} {an od:Option Addr}
  {osl:Array (Option Value)} {N ps:List Str} {sp:Sp} (lk:K.lookup f=some ⟨oc,od,.func (PySem.W.fnOf name qual params body scope dV kV doc pm an cdv ct),osl⟩) (hcd:PySem.W.codeIn K cdv qual=true) (S:FnScope N ps scope)
  (len:∀ vs H Q E,sp vs H Q E→vs.length=ps.length)
  (hbody:∀ (A:Around) (outer:List Env) (s:Shared) (H:Hp) (vs:List V) (Q:VK) (E:XK),Room k (A.deeper (envOfC qual scope s.heap.objs.size f cdv))→sp vs H Q E →
   ∃ t,PSs (cxOf CX P w K mg base N qual scope f cdv A outer s H E) body t∧t { nx:=fun _ H'=>Q .non H',rt:=Q } (start N vs) H) :
  FnOk P w K mg base CX (k+1) f (PySem.W.fnOf name qual params body scope dV kV doc pm an cdv ct) ps sp:=by
 refine ⟨len,fun A outer s H args us vs Q E hr e0 hb r hsp=>?_⟩
 have hl:=len _ _ _ _ hsp
 have KX:K.In s.heap:=e0.mod.kin.keeps fun b o e=>(e0.bs b o e).1
 have lim:s.heap.NoLimit:=e0.mod.nolimit.keeps fun b o e=>(e0.bs b o e).1
 have hkind:∀ y∈ps.zip us,scope.names.lookup y.1=some .local∨(scope.names.lookup y.1=some .cell∧((cellsFrom (s.heap.objs.size+1) scope.names []).lookup y.1).isSome=true):=fun ⟨n,v⟩ hy=>by
  rcases S.par n (List.of_mem_zip hy).1 with q | q
  ·exact .inl q
  ·exact .inr ⟨q,PySem.W.cellsFrom_some _ _ _ (.inl q)⟩
 refine codeAny_call_function hr.depth (KX _ _ lk) rfl S.co S.gen rfl (PySem.W.codeRec_of KX hcd) (hb _ _ _ _ ?_)
 refine wpAny_newFunctionEnv_cells S.kind hkind fun env he s1 x=>?_
 subst he
 refine ⟨lim.keeps x.toInCall.keep,codeAny_func ?_⟩
 obtain ⟨t,ht,hq⟩:=hbody A outer s H vs Q E (hr.deeper _) hsp
 have I:Inv (cxOf CX P w K mg base N qual scope f cdv A outer s H E) [] (start N vs) H s1:=inv_start S hr.hd e0 hl r x
 refine wpAny_mono (ht [] s1 (start N vs) H _ I hq) (fun fl s' hs=>?_) fun e s' hs=>hs
 have fin:∀ {σ':St} {H':Hp} {v:V} {u:Value},Inv (cxOf CX P w K mg base N qual scope f cdv A outer s H E) [] σ' H' s'→RelV v u→Q v H'→CE outer P w H s Q u s' :=
  fun {σ' H' v u} J rv q=>⟨v,H',J.os,J.bare,J.base,J.hok,rv,q⟩
 cases fl with
 | ret u =>
  obtain ⟨v,σ',H',J,rv,q⟩:=hs
  exact fin J rv q
 | next =>
  obtain ⟨σ',H',J,q⟩:=hs
  exact fin (v:=V.non) (u:=Value.none) J rfl q
 | brk =>
  obtain ⟨_,_,_,q⟩:=hs
  exact False.elim q
 | cont =>
  obtain ⟨_,_,_,q⟩:=hs
  exact False.elim q
end L2
namespace L2
open PySem PySem.Spec PyProof.Rows
section
variable {X:Cx} {x:Str} {p pos:Pos} {e:Expr} {es:List Expr} {t:TA} {id T:String} {r:List V→Hp→VK→Prop}
def tCB (r:List V→Hp→VK→Prop) (t:TA):TE:=fun σ H Q=>t σ H fun vs H1=>r vs H1 Q
theorem pe_callB (hc:CallR X (.builtin id) r) (hg:Gl X x) (hm:X.mg x=none) (hv:bootBuiltins x=some (.builtin id)) (ha:PA X (e :: es) t) (hn:x≠"__name__":=by decide) (hdb:(x == ("__debug__":Str))=false:=by decide)
  (he:starEach (e :: es) X.env=(false,eval e X.env) :: starEach es X.env:=by rfl) (hpl:(backTo pos (starEach es X.env)).any (·.1)=false:=by rfl):PE X (.Call (.Name x p) (e :: es) [] pos) (tCB r t):=by
 intro pins s σ H Q I h
 refine wpAny_Call_Name_kw (ld_blt I hg hm hv ?_ hn hdb)
 exact PyProof.Rows.callWith_builtin1 (thn (ha pos pins s σ H _ I h) fun us s1 ⟨vs,H1,I1,r1,q1⟩=>hc pins s1 σ H1 vs us Q I1 r1 q1) he hpl
theorem pe_callTy (hc:CallR X (.type T) r) (hg:Gl X x) (hm:X.mg x=none) (hv:bootBuiltins x=some (.type T)) (ha:PA X (e :: es) t) (hn:x≠"__name__":=by decide) (hdb:(x == ("__debug__":Str))=false:=by decide)
  (he:starEach (e :: es) X.env=(false,eval e X.env) :: starEach es X.env:=by rfl) (hpl:(backTo pos (starEach es X.env)).any (·.1)=false:=by rfl):PE X (.Call (.Name x p) (e :: es) [] pos) (tCB r t):=by
 intro pins s σ H Q I h
 refine wpAny_Call_Name_kw (ld_blt I hg hm hv ?_ hn hdb)
 exact PyProof.Rows.callWith_type1 (thn (ha pos pins s σ H _ I h) fun us s1 ⟨vs,H1,I1,r1,q1⟩=>hc pins s1 σ H1 vs us Q I1 r1 q1) he hpl
end
end L2
namespace HT
open PySem PyProof.Rows
section
open PySem.SeqAt
open PySem.AutoSeq1 (wpAny_loadPart')
open PySem.MeetsSeq PySem.MeetsSeq2 PySem.MeetsSeq3
end
section
variable {prog:Program} {w:World} {A:Around} {E:Value→Shared→Prop} {s:Shared}
def sIx (n d:Nat):Option Int→Nat
 | none=>d
 | some v=>if v < 0 then (v+(n:Int)).toNat else min v.toNat n
end
end HT
namespace L2
open PySem PySem.Spec PyProof.Rows
abbrev TO:=St→Hp→(Option Int→Hp→Prop)→Prop
def PO (X:Cx) (e:Option Expr) (t:TO):Prop :=
 ∀ (pins:List (Addr×Obj)) (s:Shared) (σ:St) (H:Hp) (Q:Option Int→Hp→Prop),Inv X pins σ H s→t σ H Q →
  wpAny (model X.prog X.w) X.A (evalPart e X.env) (fun u s'=>∃ o H',Inv X pins σ H' s'∧IsPart u o∧Q o H') X.xe s
def tNoPart:TO:=fun _ H Q=>Q none H
def tPart (t:TE):TO:=fun σ H Q=>t σ H fun x H1=>∃ i,x=.int i∧Q (some i) H1
theorem intsAre_of {ns:List Int}:∀ {us:List Value},Vals (ns.map V.int) us→IntsAre us ns:=by
 induction ns with
 | nil=>intro us r;rw [List.map_nil] at r;cases r;exact .nil
 | cons n ns ih =>
  intro us r
  rw [List.map_cons] at r
  cases r with
  | cons r1 r2 =>
   obtain ⟨t,e⟩:=r1
   subst e
   exact .cons n t (ih r2)
section
variable {X:Cx} {e:Expr} {te:TE} {lo hi:Option Expr} {tl th:TO} {pos p2:Pos}
theorem po_none:PO X none tNoPart:=by
 intro pins s σ H Q I h
 rw [evalPart_none]
 exact wpAny_pure ⟨none,H,I,.none,h⟩
theorem po_some (h:PE X e te):PO X (some e) (tPart te):=by
 intro pins s σ H Q I hw
 rw [evalPart_some]
 refine thn (h pins s σ H _ I hw) fun u s1 ⟨x,H1,I1,r1,q1⟩=>?_
 obtain ⟨i,rfl,q⟩:=q1
 obtain ⟨t,rfl⟩:=r1
 exact ⟨some i,H1,I1,.int i t,q⟩
def SlR (X:Cx) (r:V→Option Int→Option Int→Hp→VK→Prop):Prop :=
 ∀ (pins:List (Addr×Obj)) (s:Shared) (σ:St) (H:Hp) (x:V) (v vl vu:Value) (lo hi:Option Int) (sl:Addr) (Q:VK),Inv X pins σ H s→RelV x v→s.heap.IsSliceOf sl vl vu .none→IsPart vl lo→IsPart vu hi→r x lo hi H Q →
  ∃ T id,typeLookup (.type T) "__getitem__"=pure (some (.builtin id))∧s.TypeIs v T∧wpAny (model X.prog X.w) X.A (getItem v (.ref sl)) (EP X pins σ Q) X.xe s
def tSl (r:V→Option Int→Option Int→Hp→VK→Prop) (te:TE) (tl th:TO):TE:=fun σ H Q=>te σ H fun x H1=>tl σ H1 fun l H2=>th σ H2 fun u H3=>r x l u H3 Q
theorem pe_slice {r:V→Option Int→Option Int→Hp→VK→Prop} (hr:SlR X r) (he:PE X e te) (hl:PO X lo tl) (hu:PO X hi th):PE X (.Subscript e (.Slice lo hi none p2) pos) (tSl r te tl th):=by
 intro pins s σ H Q I h
 refine Subscript_ (thn (he pins s σ H _ I h) fun v s1 ⟨x,H1,I1,r1,q1⟩=>?_)
 refine wpAny_Slice (thn (hl pins s1 σ H1 _ I1 q1) fun vl s2 ⟨l,H2,I2,pl,q2⟩=>thn (hu pins s2 σ H2 _ I2 q2) fun vu s3 ⟨u,H3,I3,pu,q3⟩=>?_)
 rw [evalPart_none]
 refine wpAny_pure ?_
 have I4:Inv X pins σ H3 { s3 with heap:=s3.heap.push { cls:=.type "slice",data:=.fields #[vl,vu,.none] } }:=I3.kept (t':=s3.toks) fun b ob q=>Heap.get?_push_of_some _ q
 obtain ⟨T,id,hT,ht,hg⟩:=hr pins { s3 with heap:=s3.heap.push { cls:=.type "slice",data:=.fields #[vl,vu,.none] } } σ H3 x v vl vu l u s3.heap.objs.size Q I4 r1 (Heap.IsSliceOf.new ..) pl pu q3
 show wpAny (model X.prog X.w) X.A (subscriptTail e (.Slice lo hi none p2) v (.ref s3.heap.objs.size)) (EP X pins σ Q) X.xe { s3 with heap:=s3.heap.push { cls:=.type "slice",data:=.fields #[vl,vu,.none] } }
 exact tail_any (ops:=[.ref s3.heap.objs.size,v]) ht hT hg (by with_unfolding_all rfl)
def cutV (xs:List V) (lo hi:Option Int):List V:=(xs.drop (HT.sIx xs.length 0 lo)).take (HT.sIx xs.length xs.length hi - HT.sIx xs.length 0 lo)
theorem cutV_length (xs:List V) (lo hi:Option Int):(cutV xs lo hi).length≤xs.length:=by
 unfold cutV
 rw [List.length_take,List.length_drop]
 omega
end
end L2
namespace L2
open PySem PySem.Spec PyProof.Rows
def ixN (n:Nat) (i:Int):Option Nat:=if 0≤i then (if i < n then some i.toNat else none) else if -(n:Int)≤i then some (i+n).toNat else none
def atI {α:Type} (xs:List α) (i:Int):Option α:=(ixN xs.length i).bind fun j=>xs[j]?
theorem ixN_seq {n:Nat} {i:Int} {j:Nat} (h:ixN n i=some j):seqIndex? i n=some j∧j < n∧-(n:Int)≤i∧i < n:=by
 unfold ixN at h
 by_cases h0:0≤i
 ·rw [if_pos h0] at h
  by_cases h1:i < n
  ·rw [if_pos h1] at h
   have e:i.toNat=j:=Option.some.inj h
   exact ⟨by rw [seqIndex_of h0 h1,e],by omega,by omega,h1⟩
  ·rw [if_neg h1] at h;cases h
 ·rw [if_neg h0] at h
  by_cases h1:-(n:Int)≤i
  ·rw [if_pos h1] at h
   have e:(i+n).toNat=j:=Option.some.inj h
   exact ⟨by rw [seqIndex_neg (by omega) h1,e],by omega,h1,by omega⟩
  ·rw [if_neg h1] at h;cases h
theorem atI_get {α:Type} {xs:List α} {i:Int} {v:α} (h:atI xs i=some v):∃ j,seqIndex? i xs.length=some j∧xs[j]?=some v∧j < xs.length∧-(xs.length:Int)≤i∧i < xs.length:=by
 unfold atI at h
 cases e:ixN xs.length i with
 | none=>rw [e] at h;cases h
 | some j =>
  rw [e] at h
  obtain ⟨h1,h2,h3,h4⟩:=ixN_seq e
  exact ⟨j,h1,h,h2,h3,h4⟩
theorem atI_nat {α:Type} {xs:List α} {j:Nat} {v:α} (h:xs[j]?=some v):atI xs (j:Int)=some v:=by
 have hj:j < xs.length:=(List.getElem?_eq_some_iff.mp h).1
 have e:ixN xs.length (j:Int)=some j:=by
  unfold ixN
  rw [if_pos (by omega),if_pos (by omega)];simp
 unfold atI;rw [e];exact h
theorem atI_last {α:Type} (xs:List α) (v:α):atI (xs++[v]) (-1)=some v:=by
 have hl:(xs++[v]).length=xs.length+1:=by simp
 have e:ixN (xs++[v]).length (-1)=some xs.length:=by
  unfold ixN
  rw [hl,if_neg (by decide),if_pos (by omega)]
  congr 1
  omega
 unfold atI
 rw [e]
 show (xs++[v])[xs.length]?=some v
 simp
def PlainIx (b:Expr):Prop:=∀ o i,subscripted b false o i=operate [o,i] (getItem o i)
def IxR (X:Cx) (r:R2):Prop :=
 ∀ (value slice:Expr) (pins:List (Addr×Obj)) (s:Shared) (σ:St) (H:Hp) (x y:V) (v u:Value) (Q:VK),Inv X pins σ H s→RelV x v→RelV y u→r x y H Q →
  subscripted slice false v u=operate [v,u] (getItem v u)→wpAny (model X.prog X.w) X.A (subscriptTail value slice v u) (EP X pins σ Q) X.xe s
def MtR (X:Cx) (id:String) (r:V→List V→Hp→VK→Prop):Prop :=
 ∀ (pins:List (Addr×Obj)) (s:Shared) (σ:St) (H:Hp) (x:V) (xs:List V) (v:Value) (us:List Value) (Q:VK),Inv X pins σ H s→RelV x v→Vals xs us→r x xs H Q →
  wpAny (model X.prog X.w) X.A (call (.builtin id) (v :: us)) (EP X pins σ Q) X.xe s
section
variable {X:Cx} {a b:Expr} {ta tb:TE} {pos:Pos}
theorem pe_ix {r:R2} (hr:IxR X r) (ha:PE X a ta) (hb:PE X b tb) (hs:PlainIx b):PE X (.Subscript a b pos) (tOp r ta tb):=by
 intro pins s σ H Q I h
 exact Subscript_ (binT ha hb I h fun v u s2 x y H2 I2 rx ry q=>hr a b pins s2 σ H2 x y v u Q I2 rx ry q (hs _ _))
def rIxL (K:PySem.W.Frag):R2:=fun x y H Q=>∃ p xs i v,x=.ref p∧y=.int i∧SqL K H p xs∧atI xs i=some v∧Q v H
theorem ix_list:IxR X (rIxL X.K):=by
 intro value slice pins s σ H x y v u Q I rx ry h hs
 obtain ⟨p,xs,i,z,rfl,rfl,hq,he,q⟩:=h
 cases rx
 obtain ⟨t,rfl⟩:=ry
 obtain ⟨its,r,pl,hz⟩:=I.list hq
 obtain ⟨j,h1,h2,h3,h4,h5⟩:=atI_get he
 obtain ⟨w,ew,rw'⟩:=r.get h2
 have hl:=r.length
 have hn:=line63
 have fin:EP X pins σ Q w s:=⟨z,H,I,rw',q⟩
 by_cases h0:0≤i
 ·have hj:i.toNat=j:=by
   rw [seqIndex_of h0 h5] at h1
   exact Option.some.inj h1
  exact item_listR pl.isList h0 (by omega) (by rw [hj];simpa using ew) fin hs
 ·have hj:(i+(its.toArray.size:Int)).toNat=j:=by
   rw [seqIndex_neg (by omega) h4] at h1
   rw [List.size_toArray,← hl]
   exact Option.some.inj h1
  exact subscriptTail_builtinR (x:=w) pl.isList.typeIs slot_list_getitem.lookup
   (wpAny_getItem_list_neg (Q:=fun r s'=>r=w∧EP X pins σ Q r s') pl.isList (by omega) (by rw [List.size_toArray] <;> omega) (by omega) (by rw [hj];simpa using ew) ⟨rfl,fin⟩) hs
theorem slice_bounds (lo hi:Option Int) (n:Nat):(sliceBounds lo hi none n).1=((HT.sIx n 0 lo:Nat):Int)∧(sliceBounds lo hi none n).2.1=((HT.sIx n n hi:Nat):Int)∧(sliceBounds lo hi none n).2.2=1:=by
 refine ⟨?_,?_,rfl⟩
 ·cases lo with
  | none=>simp [sliceBounds,HT.sIx]
  | some i =>
   simp only [sliceBounds,HT.sIx,Option.getD_none,show (1:Int) > 0 by decide,if_true]
   by_cases h:i < 0
   ·simp only [h,if_true] <;> omega
   ·simp only [h,if_false] <;> omega
 ·cases hi with
  | none=>simp [sliceBounds,HT.sIx]
  | some i =>
   simp only [sliceBounds,HT.sIx,Option.getD_none,show (1:Int) > 0 by decide,if_true]
   by_cases h:i < 0
   ·simp only [h,if_true] <;> omega
   ·simp only [h,if_false] <;> omega
theorem slicePick_cut (its:List Value) (lo hi:Option Int):slicePick its.toArray lo hi none=((its.drop (HT.sIx its.length 0 lo)).take (HT.sIx its.length its.length hi - HT.sIx its.length 0 lo)).toArray:=by
 obtain ⟨h1,h2,h3⟩:=slice_bounds lo hi its.toArray.size
 unfold slicePick
 rw [h1,h2,h3]
 simp only [sliceRange_one,pick_run,List.size_toArray] <;> rfl
def rSlL (K:PySem.W.Frag):V→Option Int→Option Int→Hp→VK→Prop:=fun x lo hi H Q=>∃ a xs,x=.ref a∧SqL K H a xs∧∀ p,H p=none→Q (.ref p) (upd H p (.lst (cutV xs lo hi)))
theorem sl_list:SlR X (rSlL X.K):=by
 intro pins s σ H x v vl vu lo hi sl Q I rx hs pl pu h
 obtain ⟨a,xs,rfl,hx,q⟩:=h
 cases rx
 obtain ⟨its,r,ht,hz⟩:=I.list hx
 have hlen:=r.length
 refine ⟨"list",_,slot_list_getitem.lookup,ht.isList.typeIs,?_⟩
 refine wpAny_getItem_list_slice ht.isList hs pl pu .none (by simp) ?_ (by rw [List.size_toArray] <;> omega)
 rw [slicePick_cut,← hlen]
 refine ⟨.ref s.heap.objs.size,_,I.laid (t':=s.toks) (o:=.lst (cutV xs lo hi)) (fun b ob q=>Heap.get?_push_of_some _ q) (Nat.le_refl _) ?_,rfl,q _ (I.hok.fresh (Nat.le_refl _))⟩
 exact ⟨Nat.le_trans (cutV_length xs lo hi) hz,_,0,(r.drop (HT.sIx xs.length 0 lo)).take (HT.sIx xs.length xs.length hi - HT.sIx xs.length 0 lo),Heap.get?_push_size _ rfl⟩
theorem call_len_seq:CallR X (.builtin "len") (fun xs H Q=>∃ p ys,xs=[.ref p]∧(SqL X.K H p ys∨SqT X.K H p ys)∧Q (.int ys.length) H):=by
 intro pins s σ H xs us Q I r h
 obtain ⟨p,ys,rfl,hq,q⟩:=h
 obtain ⟨u,rfl,rx⟩:=vals1 r
 cases rx
 have hn:=line63
 rcases hq with hq | hq
 ·obtain ⟨its,r',pl,hz⟩:=I.list hq
  have hlen:=r'.length
  exact Calls.call_len_list pl.isList (by simp only [List.size_toArray] <;> omega) ⟨.int ys.length,H,I.tok _,⟨s.toks+1,by rw [List.size_toArray,hlen]⟩,q⟩
 ·obtain ⟨its,r',pl,hz⟩:=I.tuple hq
  have hlen:=r'.length
  exact len_tuple pl (by simp only [List.size_toArray] <;> omega) ⟨.int ys.length,H,I.tok _,⟨s.toks+1,by rw [List.size_toArray,hlen]⟩,q⟩
theorem call_list_of:CallR X (.type "list") (fun xs H Q=>∃ p ys,xs=[.ref p]∧(SqL X.K H p ys∨SqT X.K H p ys)∧∀ l,H l=none→Q (.ref l) (upd H l (.lst ys))):=by
 intro pins s σ H xs us Q I r h
 obtain ⟨p,ys,rfl,hq,q⟩:=h
 obtain ⟨u,rfl,rx⟩:=vals1 r
 cases rx
 have fin:∀ (its:List Value),Vals ys its→ys.length≤sizeLine→∀ (h':Heap) (c':Nat),(∀ b o',s.heap.get? b=some o'→h'.get? b=some o') →
   h'.get? s.heap.objs.size=some { cls:=.type "list",dict:=none,data:=.seq its.toArray c',slots:=#[] }→EP X pins σ Q (.ref s.heap.objs.size) { s with heap:=h' }:=fun its r' hz h' c' kp e =>
  ⟨.ref s.heap.objs.size,_,I.laid (t':=s.toks) kp (Nat.le_refl _) (show ObjOk X.prog X.w _ h' _ (.lst ys) from ⟨hz,its,c',r',e⟩),rfl,q _ (I.hok.fresh (Nat.le_refl _))⟩
 rcases hq with hq | hq
 ·obtain ⟨its,r',pl,hz⟩:=I.list hq
  have hlen:=r'.length
  obtain ⟨o,ho,hc,n,hd⟩:=pl.isList
  exact call_list_seq p (.inl rfl) ho hc hd (fun h' c' kp e=>fin its r' hz h' c' kp e) (by simp only [List.size_toArray] <;> omega)
 ·obtain ⟨its,r',pl,hz⟩:=I.tuple hq
  have hlen:=r'.length
  obtain ⟨o,ho,hc,n,hd⟩:=pl
  exact call_list_seq p (.inr rfl) ho hc hd (fun h' c' kp e=>fin its r' hz h' c' kp e) (by simp only [List.size_toArray] <;> omega)
theorem call_tuple_of:CallR X (.type "tuple") (fun xs H Q=>∃ p ys,xs=[.ref p]∧((SqL X.K H p ys∧∀ l,H l=none→Q (.ref l) (upd H l (.tup ys)))∨(SqT X.K H p ys∧Q (.ref p) H))):=by
 intro pins s σ H xs us Q I r h
 obtain ⟨p,ys,rfl,h⟩:=h
 obtain ⟨u,rfl,rx⟩:=vals1 r
 cases rx
 rcases h with ⟨hq,q⟩ | ⟨hq,q⟩
 ·obtain ⟨its,r',pl,hz⟩:=I.list hq
  have hlen:=r'.length
  refine call_tuple_list pl.isList (fun h' kp=>?_) (by simp only [List.size_toArray] <;> omega)
  have I1:Inv X pins σ H { s with heap:=h' }:=I.kept (t':=s.toks) kp
  have I2:Inv X pins σ (upd H h'.objs.size (.tup ys)) { s with heap:=h'.push { cls:=.type "tuple",data:=.seq its.toArray } } :=
   I1.laid (t':=s.toks) (fun b o e=>Heap.get?_push_of_some _ e) (Nat.le_refl _) (show ObjOk X.prog X.w _ _ _ (.tup ys) from ⟨hz,its,r',IsTup.new _ _⟩)
  exact ⟨.ref h'.objs.size,_,I2,rfl,q _ (I1.hok.fresh (Nat.le_refl _))⟩
 ·obtain ⟨its,r',pl,hz⟩:=I.tuple hq
  exact call_tuple_same pl ⟨.ref p,H,I,rfl,q⟩
def tyV (K:PySem.W.Frag) (T:String) (x:V) (H:Hp):Prop:=match x with
 | .str _=>T="str"
 | .int _=>T="int"
 | .ref p=>(T="list"∧∃ xs,SqL K H p xs)∨(T="tuple"∧∃ o,K.lookup p=some o∧o.cls=.type "tuple"∧o.dict=none) ∨
   (T="dict"∧((∃ kvs,H p=some (.dK kvs))∨∃ kvs,H p=some (.dT kvs)))∨(T="set"∧∃ S n,H p=some (.set S n))
 | _=>False
theorem tyV_is {pins:List (Addr×Obj)} {σ:St} {H:Hp} {s:Shared} {T:String} {x:V} {v:Value} (I:Inv X pins σ H s) (r:RelV x v) (ty:tyV X.K T x H) :
  s.TypeIs v T∧∀ a,v=.ref a→∃ ob,s.heap.get? a=some ob∧ob.dict=none:=by
 cases x with
 | str z =>
  obtain ⟨t,rfl⟩:=r
  cases (show T="str" from ty)
  exact ⟨typeIs_str s z t,fun _ e=>nomatch e⟩
 | int i =>
  obtain ⟨t,rfl⟩:=r
  cases (show T="int" from ty)
  exact ⟨typeIs_int s i t,fun _ e=>nomatch e⟩
 | ref p =>
  cases r
  rcases ty with ⟨rfl,xs,hq⟩ | ⟨rfl,o,hk,hc,hd⟩ | ⟨rfl,hk⟩ | ⟨rfl,S,n,hk⟩
  ·obtain ⟨its,_,pl,_⟩:=I.list hq
   refine ⟨pl.isList.typeIs,fun a e=>?_⟩
   cases e
   obtain ⟨o,n,e,c,hd,_⟩:=pl
   exact ⟨o,e,hd⟩
  ·refine ⟨⟨o,I.kIn p o hk,hc⟩,fun a e=>?_⟩
   cases e
   exact ⟨o,I.kIn _ o hk,hd⟩
  ·have z:∃ o,s.heap.get? p=some o∧o.ExactDict:=by
    rcases hk with ⟨kvs,hk⟩ | ⟨kvs,hk⟩
    ·obtain ⟨_,_,_,_,o,_,_,e,ex,_⟩:=I.hok p _ hk
     exact ⟨o,e,ex⟩
    ·obtain ⟨_,_,_,_,o,_,_,e,ex,_⟩:=I.hok p _ hk
     exact ⟨o,e,ex⟩
   obtain ⟨o,e,ex⟩:=z
   refine ⟨⟨o,e,ex.1⟩,fun a e2=>?_⟩
   cases e2
   exact ⟨o,e,ex.2.1⟩
  ·obtain ⟨o,_,_,_,e,ex,_⟩:=I.hok p _ hk
   refine ⟨⟨o,e,ex.1⟩,fun a e2=>?_⟩
   cases e2
   exact ⟨o,e,ex.2.1⟩
 | _=>exact False.elim ty
def tBM0 (K:PySem.W.Frag) (T:String) (r:V→List V→Hp→VK→Prop) (to:TE):TE:=fun σ H Q=>to σ H fun x H1=>tyV K T x H1∧r x [] H1 Q
def tBM (K:PySem.W.Frag) (T:String) (r:V→List V→Hp→VK→Prop) (to:TE) (t:TA):TE:=fun σ H Q=>to σ H fun x H1=>tyV K T x H1∧t σ H1 fun xs H2=>r x xs H2 Q
variable {o e:Expr} {es:List Expr} {to:TE} {t:TA} {name:Str} {apos cpos:Pos} {T id:String} {r:V→List V→Hp→VK→Prop}
theorem pe_bm0 (pa:PlainAttrs T) (slot:Slot T name id) (hty:typeOf (.builtin id)=pure (.type "method_descriptor")) (hm:MtR X id r) (ho:PE X o to)
  (hbase:attributeBase o name X.env (eval o X.env)=eval o X.env:=by rfl) (hline:(apos.endLine == cpos.line)=true:=by rfl):PE X (.Call (.Attribute o name apos) [] [] cpos) (tBM0 X.K T r to):=by
 intro pins s σ H Q I h
 refine wpAny_Call_method0_late hbase hline (thn (ho pins s σ H _ I h) fun v s1 ⟨x,H1,I1,r1,ty,q1⟩=>?_)
 obtain ⟨h1,h2⟩:=tyV_is I1 r1 ty
 exact ⟨T,id,pa,slot,hty,h1,h2,Calls.callWith_builtin rfl (PySem.evalArgs_none (hm pins s1 σ H1 x [] v [] Q I1 r1 .nil q1))⟩
theorem pe_bm (pa:PlainAttrs T) (slot:Slot T name id) (hty:typeOf (.builtin id)=pure (.type "method_descriptor")) (hm:MtR X id r) (ho:PE X o to) (ha:PA X (e :: es) t)
  (hbase:attributeBase o name X.env (eval o X.env)=eval o X.env:=by rfl)
  (hfew:((backTo cpos (starEach (e :: es) X.env)).all (fun x=>!x.1) && (backToKw cpos (keywordEach [] X.env)).all (fun x=>x.1.isSome)
   && decide ((e :: es).length+([]:List Keyword).length+(if ([]:List Keyword).isEmpty then 0 else 1) < 30))=true:=by rfl)
  (hline:(apos.endLine == cpos.line)=true:=by rfl) (hs:starEach (e :: es) X.env=(false,eval e X.env) :: starEach es X.env:=by rfl) (hplain:(backTo cpos (starEach es X.env)).any (·.1)=false:=by rfl) :
  PE X (.Call (.Attribute o name apos) (e :: es) [] cpos) (tBM X.K T r to t):=by
 intro pins s σ H Q I h
 refine wpAny_Call_method_late hbase hfew hline rfl (thn (ho pins s σ H _ I h) fun v s1 ⟨x,H1,I1,r1,ty,q1⟩=>?_)
 obtain ⟨h1,h2⟩:=tyV_is I1 r1 ty
 refine ⟨T,id,pa,slot,hty,h1,h2,?_⟩
 have hA:=ha cpos pins s1 σ H1 _ I1 q1
 rw [hs] at hA ⊢
 refine Calls.callWith_builtin (by show (false || (backTo cpos (starEach es X.env)).any (·.1))=false;rw [hplain] <;> rfl) (Calls.evalArgs_plain ?_)
 exact thn hA fun us s2 ⟨vs,H2,I2,r2,q2⟩=>hm pins s2 σ H2 x vs v us Q I2 r1 r2 q2
end
end L2
namespace L2
open PySem PySem.Spec PyProof.Rows
def MtM (X:Cx) (id:String) (r:V→List V→Hp→VK→Prop):Prop :=
 ∀ (pins:List (Addr×Obj)) (s:Shared) (σ:St) (H:Hp) (x:V) (xs:List V) (v:Value) (us:List Value) (Q:VK),Inv X pins σ H s→RelV x v→Vals xs us→r x xs H Q →
  wpAny (model X.prog X.w) X.A (call (.builtin id) (v :: us)) (EP X pins σ Q) X.xe s
theorem Vals.one:∀ {x:V} {us:List Value},Vals [x] us→∃ u,us=[u]∧RelV x u
 | _,_,.cons r .nil=>⟨_,rfl,r⟩
theorem Vals.two:∀ {x y:V} {us:List Value},Vals [x,y] us→∃ u v,us=[u,v]∧RelV x u∧RelV y v
 | _,_,_,.cons r (.cons q .nil)=>⟨_,_,rfl,r,q⟩
theorem Vals.zero:∀ {us:List Value},Vals [] us→us=[]
 | _,.nil=>rfl
section
variable {X:Cx} {pins:List (Addr×Obj)} {σ:St} {H:Hp} {s:Shared} {l b:Addr} {xs ys zs:List V}
theorem Inv.lset {its its':List Value} {n:Nat} {f:Array Value→Array Value} {t':Nat} (I:Inv X pins σ H s) (hH:H l=some (.lst xs))
  (e:s.heap.get? l=some { cls:=.type "list",data:=.seq its.toArray n }) (hf:f its.toArray=its'.toArray) (hv:Vals ys its') (hz:ys.length≤sizeLine) :
  Inv X pins σ (upd H l (.lst ys)) { s with heap:=s.heap.update l (Obj.mapSeq f),toks:=t' }:=by
 have q:=PySem.IsL.update e f
 rw [hf] at q
 refine I.write (x:=l) (e:=l) (by rw [hH];exact trivial) (.inl rfl) (fun b' u hb hu=>(Heap.get?_update_other s.heap (Obj.mapSeq f) (Ne.symm hb)).trans hu) ⟨_,q⟩ ?_
 exact ⟨hz,its',_,hv,q⟩
theorem Inv.lnew {its:List Value} {t':Nat} (I:Inv X pins σ H s) (hv:Vals ys its) (hz:ys.length≤sizeLine) :
  Inv X pins σ (upd H s.heap.objs.size (.lst ys)) { s with heap:=s.heap.push { cls:=.type "list",data:=.seq its.toArray },toks:=t' } :=
 I.laid (fun _ _ q=>Heap.get?_push_of_some _ q) (Nat.le_refl _) ⟨hz,its,0,hv,Heap.get?_push_size _ rfl⟩
theorem Inv.fresh (I:Inv X pins σ H s):H s.heap.objs.size=none:=I.hok.fresh (Nat.le_refl _)
theorem Inv.lstM (I:Inv X pins σ H s) (hH:H l=some (.lst xs)):xs.length≤sizeLine∧∃ (its:List Value) (n:Nat),Vals xs its∧xs.length=its.length∧s.heap.get? l=some { cls:=.type "list",data:=.seq its.toArray n }:=by
 obtain ⟨z,its,n,r,e⟩:=I.hok l _ hH
 exact ⟨z,its,n,r,r.length,e⟩
end
section
variable {X:Cx}
def rAppend:V→List V→Hp→VK→Prop:=fun x vs H Q=>∃ l xs y,x=.ref l∧vs=[y]∧H l=some (.lst xs)∧xs.length < sizeLine∧Q .non (upd H l (.lst (xs++[y])))
theorem mt_append:MtM X "list.append" rAppend:=by
 intro pins s σ H x vs v us Q I rx rv h
 obtain ⟨l,xs,y,rfl,rfl,hH,hz,q⟩:=h
 cases rx
 obtain ⟨u,rfl,ru⟩:=rv.one
 obtain ⟨z,its,n,r,hl,e⟩:=I.lstM hH
 refine call_meets F.slot_list_append ⟨_,e,rfl⟩ F.entry_list_append (F.args_list_append_2 _ _) (PySem.list_append l its.toArray n u (by rw [List.size_toArray];omega)) ⟨e,?_⟩
 refine ⟨.non,_,I.lset (its':=its++[u]) hH e (by simp) (r.append (.cons ru .nil)) ?_,rfl,q⟩
 rw [List.length_append,List.length_singleton]
 omega
def rCat:R2:=fun x y H Q=>∃ l b xs zs,x=.ref l∧y=.ref b∧H l=some (.lst xs)∧H b=some (.lst zs)∧xs.length+zs.length≤sizeLine∧∀ p,H p=none→Q (.ref p) (upd H p (.lst (xs++zs)))
theorem op_cat:OpR X (binaryOp .Add) rCat:=by
 intro pins s σ H x y v u Q I rx ry h
 obtain ⟨l,b,xs,zs,rfl,rfl,hH,hB,hz,q⟩:=h
 cases rx
 cases ry
 obtain ⟨z,its,n,r,hl,e⟩:=I.lstM hH
 obtain ⟨z2,its2,n2,r2,hl2,e2⟩:=I.lstM hB
 refine PySem.P.add_list e e2 ?_ (by rw [List.size_toArray,List.size_toArray];omega)
 have ea:its.toArray++its2.toArray=(its++its2).toArray:=by simp
 rw [ea]
 exact ⟨.ref _,_,I.lnew (t':=s.toks) (r.append r2) (by rw [List.length_append];omega),rfl,q _ I.fresh⟩
end
section
variable {prog:Program} {w:World} {A:Around} {E:Value→Shared→Prop} {s:Shared}
set_option maxRecDepth 100000 in
end
section
variable {X:Cx}
end
end L2
namespace L2
open PySem PySem.Spec PyProof.Rows
section
variable {κ:Type} [DecidableEq κ]
def valV (kvs:List (κ×V)) (k:κ):Option V:=(kvs.find? fun kv=>decide (kv.1=k)).map (·.2)
def putK (kvs:List (κ×V)) (k:κ) (v:V):List (κ×V) :=
 if (kvs.any fun kv=>decide (kv.1=k))=true then kvs.map (fun kv=>if kv.1=k then (kv.1,v) else kv) else kvs++[(k,v)]
theorem valV_pos {p:κ×V} {r:List (κ×V)} {k:κ} (e:p.1=k):valV (p :: r) k=some p.2:=by simp [valV,List.find?_cons,e]
theorem valV_neg {p:κ×V} {r:List (κ×V)} {k:κ} (e:¬ p.1=k):valV (p :: r) k=valV r k:=by simp [valV,List.find?_cons,e]
theorem valV_any (k:κ):∀ kvs:List (κ×V),(kvs.any fun kv=>decide (kv.1=k))=(valV kvs k).isSome
 | []=>rfl
 | p :: r=>by
  rw [List.any_cons]
  by_cases e:p.1=k
  ·simp only [valV_pos e,decide_eq_true e,Bool.true_or,Option.isSome_some]
  ·rw [valV_neg e,decide_eq_false e,Bool.false_or];exact valV_any k r
theorem length_putK (kvs:List (κ×V)) (k:κ) (v:V):(putK kvs k v).length≤kvs.length+1:=by
 unfold putK
 split
 ·rw [List.length_map];omega
 ·rw [List.length_append,List.length_cons,List.length_nil];omega
theorem putK_new {kvs:List (κ×V)} {k:κ} (v:V) (h:valV kvs k=none):putK kvs k v=kvs++[(k,v)]:=by
 unfold putK
 rw [valV_any,h]
 exact if_neg (by decide)
theorem RelO.isSome_eq {o:Option V} {u:Option Value} (r:RelO o u):o.isSome=u.isSome:=by
 cases o with
 | none=>cases u with
  | none=>rfl
  | some _=>exact (show False from r).elim
 | some _=>cases u with
  | none=>exact (show False from r).elim
  | some _=>rfl
theorem RelO.getD {o:Option V} {u:Option Value} {d:V} {d':Value} (r:RelO o u) (rd:RelV d d'):RelV (o.getD d) (u.getD d'):=by
 cases o with
 | none=>cases u with
  | none=>exact rd
  | some _=>exact (show False from r).elim
 | some _=>cases u with
  | none=>exact (show False from r).elim
  | some _=>exact r
theorem KV.val {kvs:List (κ×V)} {vs:List (κ×Value)} (r:KV kvs vs) (k:κ):RelO (valV kvs k) (valueAt vs k):=by
 unfold KV at r
 induction r with
 | nil=>exact True.intro
 | @cons p q ps qs h t ih =>
  obtain ⟨h1,h2⟩:=h
  by_cases e:p.1=k
  ·have e':q.1=k:=h1.symm.trans e
   have b:valueAt (q :: qs) k=some q.2:=by simp [valueAt,List.find?_cons,e']
   rw [valV_pos e,b];exact h2
  ·have e':¬ q.1=k:=fun z=>e (h1.trans z)
   have b:valueAt (q :: qs) k=valueAt qs k:=by simp [valueAt,List.find?_cons,e']
   rw [valV_neg e,b];exact ih
theorem KV.any {kvs:List (κ×V)} {vs:List (κ×Value)} (r:KV kvs vs) (k:κ):(kvs.any fun kv=>decide (kv.1=k))=vs.any fun kv=>decide (kv.1=k):=by
 unfold KV at r
 induction r with
 | nil=>rfl
 | cons h t ih=>rw [List.any_cons,List.any_cons,ih,h.1]
theorem KV.repl {kvs:List (κ×V)} {vs:List (κ×Value)} (r:KV kvs vs) (k:κ) {y:V} {u:Value} (ry:RelV y u) :
  KV (kvs.map fun kv=>if kv.1=k then (kv.1,y) else kv) (vs.map fun kv=>if kv.1=k then (kv.1,u) else kv):=by
 unfold KV at r ⊢
 induction r with
 | nil=>exact .nil
 | @cons p q ps qs h t ih =>
  rw [List.map_cons,List.map_cons]
  refine .cons ?_ ih
  obtain ⟨h1,h2⟩:=h
  by_cases e:p.1=k
  ·rw [if_pos e,if_pos (h1.symm.trans e)];exact ⟨h1,ry⟩
  ·rw [if_neg e,if_neg (fun z=>e (h1.trans z))];exact ⟨h1,h2⟩
theorem KV.put {kvs:List (κ×V)} {vs:List (κ×Value)} (r:KV kvs vs) (k:κ) {y:V} {u:Value} (ry:RelV y u):KV (putK kvs k y) (stored vs k u):=by
 unfold putK stored
 rw [r.any k]
 by_cases e:(vs.any fun kv=>decide (kv.1=k))=true
 ·rw [if_pos e,if_pos e];exact r.repl k ry
 ·rw [if_neg e,if_neg e];exact Paired.snoc r ⟨rfl,ry⟩
theorem KV.length {kvs:List (κ×V)} {vs:List (κ×Value)} (r:KV kvs vs):kvs.length=vs.length:=Paired.length r
end
theorem kV_is {P:Program} {w:World} {k:Key} {u:Value} (r:RelV (kV k) u):(mixKind P w).is k u=true:=by
 cases k with
 | inl i=>obtain ⟨t,e⟩:=(show ∃ t,u=Value.int i t from r);subst e;exact mixKind_int P w i t
 | inr x=>obtain ⟨t,e⟩:=(show ∃ t,u=Value.str x t from r);subst e;exact mixKind_str P w x t
theorem items_are {P:Program} {w:World}:∀ {ks:List Key} {us:List Value},Vals (ks.map kV) us→ItemsAre (mixKind P w) ks us
 | [],_,r=>by rw [List.map_nil] at r;cases r;exact .nil
 | k :: ks,_,r=>by
  rw [List.map_cons] at r
  cases r with
  | cons h t=>exact .cons (kV_is h) (items_are t)
abbrev KT (H:Hp):List (List Key×V)→List (List Key×Addr×Value)→Prop:=Paired fun p q=>p.1=q.1∧H q.2.1=some (.tup (p.1.map kV))∧RelV p.2 q.2.2
theorem KT.val {H:Hp} {kvs:List (List Key×V)} {xs:List (List Key×Addr×Value)} (r:KT H kvs xs) (k:List Key):RelO (valV kvs k) ((atKey xs k).map (·.2)):=by
 induction r with
 | nil=>exact True.intro
 | @cons p q ps qs h t ih =>
  obtain ⟨h1,_,h2⟩:=h
  by_cases e:p.1=k
  ·have e':q.1=k:=h1.symm.trans e
   have b:atKey (q :: qs) k=some q.2:=by simp [atKey,List.find?_cons,e']
   rw [valV_pos e,b];exact h2
  ·have e':¬ q.1=k:=fun z=>e (h1.trans z)
   have b:atKey (q :: qs) k=atKey qs k:=by simp [atKey,List.find?_cons,e']
   rw [valV_neg e,b];exact ih
theorem KT.repl {H:Hp} {kvs:List (List Key×V)} {xs:List (List Key×Addr×Value)} (r:KT H kvs xs) (k:List Key) {y:V} {u:Value} (ry:RelV y u) :
  KT H (kvs.map fun kv=>if kv.1=k then (kv.1,y) else kv) (xs.map (putAt k u)):=by
 induction r with
 | nil=>exact .nil
 | @cons p q ps qs h t ih =>
  rw [List.map_cons,List.map_cons]
  refine .cons ?_ ih
  obtain ⟨h1,h2,h3⟩:=h
  unfold putAt
  by_cases e:p.1=k
  ·rw [if_pos e,if_pos (h1.symm.trans e)];exact ⟨h1,h2,ry⟩
  ·rw [if_neg e,if_neg (fun z=>e (h1.trans z))];exact ⟨h1,h2,h3⟩
theorem KT.put {H:Hp} {kvs:List (List Key×V)} {xs:List (List Key×Addr×Value)} (r:KT H kvs xs) (k:List Key) {b:Addr} {y:V} {u:Value} (hb:H b=some (.tup (k.map kV))) (ry:RelV y u) :
  KT H (putK kvs k y) (storedH xs k b u):=by
 have e:(kvs.any fun kv=>decide (kv.1=k))=(atKey xs k).isSome:=by
  rw [valV_any,(r.val k).isSome_eq,Option.isSome_map]
 unfold putK storedH
 rw [e]
 by_cases q:(atKey xs k).isSome=true
 ·rw [if_pos q,if_pos q];exact r.repl k ry
 ·rw [if_neg q,if_neg q];exact Paired.snoc r ⟨rfl,hb,ry⟩
theorem KT.keeps {H H':Hp} {kvs:List (List Key×V)} {xs:List (List Key×Addr×Value)} (r:KT H kvs xs) (ht:∀ b ys,H b=some (.tup ys)→H' b=some (.tup ys)):KT H' kvs xs :=
 Paired.mapP r fun _ _ z=>⟨z.1,ht _ _ z.2.1,z.2.2⟩
section
variable {P:Program} {w:World} {H:Hp} {h:Heap} {a:Addr}
theorem rd_of {u:HO} (ok:HOk P w H h) (e:Rd H a u):ObjOk P w H h a u:=e.ok ok
theorem dk_rd {kvs:List (Key×V)} (ok:HOk P w H h) (e:Rd H a (.dK kvs)):kvs.length≤sizeLine∧(a == sysModules)=false∧∃ vs,KV kvs vs∧h.DictOf (mixKind P w) a vs :=
 show ObjOk P w H h a (.dK kvs) from rd_of ok e
theorem dk_of {kvs:List (Key×V)} (ok:HOk P w H h) (e:H a=some (.dK kvs)):kvs.length≤sizeLine∧(a == sysModules)=false∧∃ vs,KV kvs vs∧h.DictOf (mixKind P w) a vs:=dk_rd ok (.inl e)
theorem key_of {ks:List Key} (ok:HOk P w H h) (e:H a=some (.tup (ks.map kV))):(tupleKind (mixKind P w)).is h ks a:=by
 obtain ⟨_,its,r,o,h1,h2,n,h3⟩:=(show ObjOk P w H h a (.tup (ks.map kV)) from ok a _ e)
 exact ⟨o,its.toArray,n,h1,h2,h3,by simpa using items_are r⟩
theorem dt_rd {kvs:List (List Key×V)} (ok:HOk P w H h) (e:Rd H a (.dT kvs)):kvs.length≤sizeLine∧(a == sysModules)=false ∧
  ∃ xs,KT H kvs xs∧h.DictOfH (tupleKind (mixKind P w)) a xs:=by
 obtain ⟨z,y,xs,r,o,es,ep,h1,h2,h3,h4,h5⟩:=(show ObjOk P w H h a (.dT kvs) from rd_of ok e)
 refine ⟨z,y,xs,r,o,es,ep,h1,h2,h3,h4,fun x hx=>?_,h5⟩
 have all:∀ {l:List (List Key×V)} {m:List (List Key×Addr×Value)},KT H l m→∀ x∈m,(tupleKind (mixKind P w)).is h x.1 x.2.1:=by
  intro l m q
  induction q with
  | nil=>intro x hx;exact nomatch hx
  | @cons p q ps qs hq t ih =>
   intro x hx
   rcases List.mem_cons.mp hx with e | hx
   ·subst e
    exact key_of ok (by rw [← hq.1];exact hq.2.1)
   ·exact ih x hx
 exact all r x hx
theorem dt_of {kvs:List (List Key×V)} (ok:HOk P w H h) (e:H a=some (.dT kvs)):kvs.length≤sizeLine∧(a == sysModules)=false ∧
  ∃ xs,KT H kvs xs∧h.DictOfH (tupleKind (mixKind P w)) a xs:=dt_rd ok (.inl e)
end
def DGet (H:Hp) (a:Addr) (y:V) (r:Option V):Prop :=
 (∃ kvs k,Rd H a (.dK kvs)∧y=kV k∧r=valV kvs k)∨∃ kvs k b,Rd H a (.dT kvs)∧y=.ref b∧H b=some (.tup (k.map kV))∧r=valV kvs k
def DPut (H:Hp) (a:Addr) (y v:V) (H':Hp):Prop :=
 (∃ kvs k,H a=some (.dK kvs)∧y=kV k∧kvs.length < sizeLine∧H'=upd H a (.dK (putK kvs k v))) ∨
 ∃ kvs k b,H a=some (.dT kvs)∧y=.ref b∧H b=some (.tup (k.map kV))∧kvs.length < sizeLine∧H'=upd H a (.dT (putK kvs k v))
theorem DGet.t {H:Hp} {a b:Addr} {kvs:List (List Key×V)} {k:List Key} (e:H a=some (.dT kvs)) (eb:H b=some (.tup (k.map kV))):DGet H a (.ref b) (valV kvs k):=.inr ⟨kvs,k,b,.inl e,rfl,eb,rfl⟩
theorem DPut.t {H:Hp} {a b:Addr} {kvs:List (List Key×V)} {k:List Key} {v:V} (e:H a=some (.dT kvs)) (eb:H b=some (.tup (k.map kV))) (hl:kvs.length < sizeLine) :
  DPut H a (.ref b) v (upd H a (.dT (putK kvs k v))):=.inr ⟨kvs,k,b,e,rfl,eb,hl,rfl⟩
section
variable {X:Cx} {pins:List (Addr×Obj)} {σ:St} {H:Hp} {s:Shared} {a:Addr} {y v:V} {u r:Value} {o:Option V} {A:Around} {E:Value→Shared→Prop}
theorem Inv.big (I:Inv X pins σ H s):sysModules < s.heap.objs.size:=by
 have h:mainGlobals < s.heap.objs.size:=(I.mod.glob.keeps I.bk).lt
 exact Nat.lt_trans (by decide) h
theorem d_notIn {Q:Value→Shared→Prop} (hu:A.units+1 < cLine) (I:Inv X pins σ H s) (g:DGet H a y o) (ry:RelV y u) (h:∀ s',Inv X pins σ H s'→Q (.bool (!o.isSome)) s') :
  wpAny (model X.prog X.w) A (compareOp .NotIn u (.ref a)) Q E s:=by
 rcases g with ⟨kvs,k,e,ey,l⟩ | ⟨kvs,k,b,e,ey,eb,l⟩
 ·subst ey
  obtain ⟨z,hd,vs,rel,dd⟩:=dk_rd I.hok e
  refine wpAny_notIn_of (kV_is ry) hd dd.mapOf ?_
  rw [← (rel.val k).isSome_eq,← l]
  exact h _ (I.tok _)
 ·subst ey
  cases (show u=Value.ref b from ry)
  obtain ⟨z,hd,xs,rel,dd⟩:=dt_rd I.hok e
  refine wpAny_notIn_heap (tupleKind_room_in1 hu) (key_of I.hok eb) hd dd ?_
  have q:=(rel.val k).isSome_eq
  rw [Option.isSome_map] at q
  rw [← q,← l]
  exact h _ (I.tok _)
theorem d_write {h':Heap} {t':Nat} {ob:HO} (I:Inv X pins σ H s) (mu:Mut (H a)) (hs:Heap.SameBut a s.heap h') (he:∃ q,h'.get? a=some q) (new:ObjOk X.prog X.w (upd H a ob) h' a ob) :
  Inv X pins σ (upd H a ob) { s with heap:=h',toks:=t' } :=
 I.write (x:=a) (e:=a) mu (.inl rfl) (fun b q hb z=>(hs.2 b hb).trans z) he new
theorem dk_new {P:Program} {w:World} {H':Hp} {h':Heap} {kvs:List (Key×V)} {vs:List (Key×Value)} (z:kvs.length≤sizeLine) (hd:(a == sysModules)=false) (rel:KV kvs vs) (dd:h'.DictOf (mixKind P w) a vs) :
  ObjOk P w H' h' a (.dK kvs):=⟨z,hd,vs,rel,dd⟩
theorem d_setItem {H':Hp} {Q:Unit→Shared→Prop} (hu:A.units+1 < cLine) (I:Inv X pins σ H s) (g:DPut H a y v H') (ry:RelV y u) (rv:RelV v r) (h:∀ s',Inv X pins σ H' s'→Q () s') :
  wpAny (model X.prog X.w) A (setItem (.ref a) u r) Q E s:=by
 rcases g with ⟨kvs,k,e,ey,l,eH⟩ | ⟨kvs,k,b,e,ey,eb,l,eH⟩
 ·subst ey eH
  obtain ⟨z,hd,vs,rel,dd⟩:=dk_of I.hok e
  have hz:vs.length≤sizeLine:=by rw [← rel.length];exact z
  have hl:(putK kvs k v).length≤sizeLine:=by have:=length_putK kvs k v;omega
  refine wpAny_setItem_pairs (hsz:=hz) (kV_is ry) dd fun h' dd' hs=>h _ ?_
  have he:∃ q,h'.get? a=some q:=let ⟨q,_,_,hq,_⟩:=dd';⟨q,hq⟩
  exact d_write I (by rw [e];exact True.intro) hs he (dk_new hl hd (rel.put k rv) dd')
 ·subst ey eH
  cases (show u=Value.ref b from ry)
  obtain ⟨z,hd,xs,rel,dd⟩:=dt_of I.hok e
  have hz:xs.length≤sizeLine:=by rw [← Paired.length rel];exact z
  have hl:(putK kvs k v).length≤sizeLine:=by have:=length_putK kvs k v;omega
  refine wpAny_setItem_heap (hsz:=hz) (tupleKind_room_in1 hu) (key_of I.hok eb) dd fun h' dd' hs=>h _ ?_
  obtain ⟨q,es,ep,hq,h2,h3,h4,_,h5⟩:=dd'
  refine d_write I (by rw [e];exact True.intro) hs ⟨q,hq⟩ ⟨hl,hd,_,(rel.put k eb rv).keeps fun c ys ec=>?_,q,es,ep,hq,h2,h3,h4,h5⟩
  rw [upd_ne (ne_of ec e (fun z=>nomatch z))]
  exact ec
end
section
variable {X:Cx} {pins:List (Addr×Obj)} {σ:St} {H:Hp} {s:Shared} {a:Addr} {kvs:List (Key×V)} {k:Key} {u:Value} {A:Around} {E:Value→Shared→Prop}
end
def NoSl (i:Expr):Prop:=∀ ov iv,subscripted i false ov iv=operate [ov,iv] (getItem ov iv)
theorem subD_of {prog:Program} {w:World} {A:Around} {E:Value→Shared→Prop} {s:Shared} {env:Env} {value slice:Expr} {pos:Pos} {T id:String} {Q:Value→Shared→Prop}
  (hl:typeLookup (.type T) "__getitem__"=pure (some (.builtin id))) (hs:NoSl slice)
  (h:wpAny (model prog w) A (eval value env) (fun o s₁=>wpAny (model prog w) A (eval slice env) (fun i s₂=>s₂.TypeIs o T∧wpAny (model prog w) A (getItem o i) Q E s₂) E s₁) E s) :
  wpAny (model prog w) A (eval (.Subscript value slice pos) env) Q E s:=by
 refine Subscript_ (wpAny_mono h (fun o s₁ h₁=>wpAny_mono h₁ (fun i s₂ h₂=>?_) fun _ _ x=>x) fun _ _ x=>x)
 obtain ⟨hT,h₂⟩:=h₂
 unfold subscriptTail
 refine wpAny_bind ?_
 rw [getitemInPython_of_ne hT.not_modules]
 refine wpAny_bind (wpAny_specialOf hT hl ?_)
 have fin:wpAny (model prog w) A (subscripted slice false o i) (fun r s₃=>wpAny (model prog w) A (letTemporaryGo value o r >>= fun _=>pure r) Q E s₃) E s₂:=by
  rw [hs o i]
  exact wpAny_operating (wpAny_mono h₂ (fun r s₃ h₃=>wpAny_bind (wpAny_letTemporaryGo (wpAny_pure h₃))) fun _ _ x=>x)
 first
  | exact wpAny_pure (wpAny_bind fin)
  | exact wpAny_bind (wpAny_pure (wpAny_bind fin))
  | exact wpAny_bind fin
def tDNotIn (ty td:TE):TE:=fun σ H Q=>ty σ H fun y H1=>td σ H1 fun x H2=>∃ a o,x=.ref a∧DGet H2 a y o∧Q (.bl (!o.isSome)) H2
def sDPut (td ty tv:TE):TS:=fun D σ H=>tv σ H fun v H1=>td σ H1 fun x H2=>ty σ H2 fun y H3=>∃ a H4,x=.ref a∧DPut H3 a y v H4∧D.nx σ H4
section
variable {X:Cx} {o i e value:Expr} {pos pos' tpos:Pos} {td ty tv:TE}
theorem pc_dnotin (hu:X.A.units+1 < cLine) (hi:PE X i ty) (ho:PE X o td):PC X .NotIn i o (tDNotIn ty td):=by
 intro pins s σ H Q I h
 refine thn (hi pins s σ H _ I h) fun iv s1 ⟨y,H1,I1,ry,q1⟩=>thn (ho pins s1 σ H1 _ I1 q1) fun u s2 ⟨x,H2,I2,rx,a,ov,ex,g,q2⟩=>?_
 subst ex
 obtain rfl:u=Value.ref a:=rx
 exact d_notIn hu I2 g ry fun s3 I3=>⟨.bl (!ov.isSome),H2,I3,rfl,q2⟩
theorem ps_dput (hu:X.A.units+1 < cLine) (ho:PE X o td) (hi:PE X i ty) (hv:PE X value tv) (hs:swapsWith value (some (.Subscript o i pos')) pos.line X.env=pure false) :
  PS X (.Assign [.Subscript o i pos'] value pos) (sDPut td ty tv):=by
 intro pins s σ H D I h
 refine wpAny_Assign_Subscript (thn (hv pins s σ H _ I h) fun r s1 ⟨v,H1,I1,rv,q1⟩=>thn (ho pins s1 σ H1 _ I1 q1) fun u s2 ⟨x,H2,I2,rx,q2⟩=>thn (hi pins s2 σ H2 _ I2 q2) fun iv s3 ⟨y,H3,I3,ry,a,H4,ex,g,q3⟩=>?_) hs
 subst ex
 obtain rfl:u=Value.ref a:=rx
 exact d_setItem hu I3 g ry rv fun s4 I4=>⟨σ,H4,I4,q3⟩
end
theorem dt_empty {P:Program} {w:World} {H:Hp} (h:Heap) (hb:sysModules < h.objs.size):ObjOk P w H (h.push { cls:=.type "dict",data:=.dict #[] }) h.objs.size (.dT []) :=
 ⟨Nat.zero_le _,beq_eq_false_iff_ne.mpr (Ne.symm (Nat.ne_of_lt hb)),[],.nil,_,#[],0,Heap.get?_push_size _ rfl,⟨rfl,rfl,rfl⟩,rfl,rfl,List.nodup_nil⟩
def tDNewT:TE:=fun _ H Q=>∀ p,H p=none→Q (.ref p) (upd H p (.dT []))
section
variable {X:Cx} {pos:Pos}
theorem pe_dnewT:PE X (.Dict [] [] pos) tDNewT:=fun pins s σ H Q I h =>
 wpAny_Dict_empty ⟨.ref s.heap.objs.size,_,I.laid (a:=s.heap.objs.size) (o:=.dT []) (t':=s.toks) (fun _ _ q=>Heap.get?_push_of_some _ q) (Nat.le_refl _) (dt_empty s.heap I.big),rfl,h _ (I.hok.fresh (Nat.le_refl _))⟩
end
structure M1 (X:Cx) (o:Expr) (m:Str) (apos:Pos) (e:Expr) (cpos:Pos):Prop where
 base:attributeBase o m X.env (eval o X.env)=eval o X.env
 few:((backTo cpos (starEach [e] X.env)).all (fun x=>!x.1) && (backToKw cpos (keywordEach [] X.env)).all (fun x=>x.1.isSome)
  && decide (([e]:List Expr).length+([]:List Keyword).length+(if ([]:List Keyword).isEmpty then 0 else 1) < 30))=true
 line:(apos.endLine == cpos.line)=true
 trees:backTo cpos (starEach [e] X.env)=[(false,eval e X.env)]
def IsD (H:Hp) (a:Addr):Prop:=(∃ kvs,Rd H a (.dK kvs))∨∃ kvs,Rd H a (.dT kvs)
theorem isD_at {X:Cx} {pins:List (Addr×Obj)} {σ:St} {H:Hp} {s:Shared} {a:Addr} (I:Inv X pins σ H s) (d:IsD H a) :
  s.TypeIs (.ref a) "dict"∧(∀ b,Value.ref a=.ref b→∃ ob,s.heap.get? b=some ob∧ob.dict=none)∧(a == sysModules)=false:=by
 rcases d with ⟨kvs,e⟩ | ⟨kvs,e⟩
 ·obtain ⟨_,hd,vs,_,dd⟩:=dk_rd I.hok e
  refine ⟨dd.typeIs,fun b q=>?_,hd⟩
  cases q
  obtain ⟨ob,_,_,h1,h2,_⟩:=dd
  exact ⟨ob,h1,h2.2.1⟩
 ·obtain ⟨_,hd,xs,_,dd⟩:=dt_rd I.hok e
  refine ⟨dd.typeIs,fun b q=>?_,hd⟩
  cases q
  obtain ⟨ob,_,_,h1,h2,_⟩:=dd
  exact ⟨ob,h1,h2.2.1⟩
section
variable {X:Cx} {pins:List (Addr×Obj)} {σ:St} {H:Hp} {s:Shared} {a:Addr} {y d:V} {u r:Value} {o:Option V} {A:Around} {E:Value→Shared→Prop}
theorem d_get1 {Q:Value→Shared→Prop} (hu:A.units+1 < cLine) (I:Inv X pins σ H s) (g:DGet H a y o) (ry:RelV y u) (h:∀ w' s',Inv X pins σ H s'→RelV (o.getD .non) w'→Q w' s') :
  wpAny (model X.prog X.w) A (call (.builtin "dict.get") [.ref a,u]) Q E s:=by
 rcases g with ⟨kvs,k,e,ey,l⟩ | ⟨kvs,k,b,e,ey,eb,l⟩
 ·subst ey
  obtain ⟨z,hd,vs,rel,dd⟩:=dk_rd I.hok e
  refine call_meetsIn PySem.F.slot_dict_get dd.typeIs PySem.F.entry_dict_get (PySem.F.args_dict_get_2 _ _) (meets_dict_get (mixKind X.prog X.w) a (kV_is ry) hd) ⟨_,dd.mapOf,h _ _ (I.tok _) ?_⟩
  rw [l]
  exact (rel.val k).getD rfl
 ·subst ey
  cases (show u=Value.ref b from ry)
  obtain ⟨z,hd,xs,rel,dd⟩:=dt_rd I.hok e
  refine call_meetsIn PySem.F.slot_dict_get dd.typeIs PySem.F.entry_dict_get (PySem.F.args_dict_get_2 _ _) (meetsH_dict_get (tupleKind (mixKind X.prog X.w)) a b hd) ⟨tupleKind_room_in1 hu,k,xs,key_of I.hok eb,dd,h _ _ (I.tok _) ?_⟩
  rw [l]
  exact (rel.val k).getD rfl
end
def tDGet1 (td ty:TE):TE:=fun σ H Q=>td σ H fun x H1=>∃ a,x=.ref a∧IsD H1 a∧ty σ H1 fun y H2=>∃ o,DGet H2 a y o∧Q (o.getD .non) H2
section
variable {X:Cx} {o e f:Expr} {apos cpos:Pos} {td ty tx:TE}
theorem pe_dget1 (hu:X.A.units+1 < cLine) (ho:PE X o td) (he:PE X e ty) (m:M1 X o "get" apos e cpos):PE X (.Call (.Attribute o "get" apos) [e] [] cpos) (tDGet1 td ty):=by
 intro pins s σ H Q I h
 refine wpAny_Call_method m.base m.few m.line PySem.F.plainAttrs_dict PySem.F.slot_dict_get PySem.F.type_dict_get (thn (ho pins s σ H _ I h) fun u s1 ⟨x,H1,I1,rx,a,ex,d,q1⟩=>?_)
 subst ex
 obtain rfl:u=Value.ref a:=rx
 obtain ⟨t1,t2,_⟩:=isD_at I1 d
 refine ⟨t1,t2,?_⟩
 rw [m.trees]
 refine Calls.callWith_builtin rfl (Calls.evalArgs_plain (Calls.spliced_cons (thn (he pins s1 σ H1 _ I1 q1) fun iv s2 ⟨y,H2,I2,ry,ov,g,q2⟩=>Calls.spliced_nil ?_)))
 exact d_get1 hu I2 g ry fun w' s3 I3 rw'=>⟨_,H2,I3,rw',q2⟩
end
section
variable {X:Cx} {pins:List (Addr×Obj)} {σ:St} {H:Hp} {s:Shared} {a:Addr} {kvs:List (Key×V)} {A:Around} {E:Value→Shared→Prop}
end
section
variable {X:Cx} {pins:List (Addr×Obj)} {σ:St} {H:Hp} {s:Shared} {a:Addr} {y:V} {u:Value} {A:Around} {E:Value→Shared→Prop}
end
end L2
namespace Att
open PySem PySem.W PySem.Calls PyProof.Rows
theorem ints_of_wellAll {P:Params} {h:Heap}:∀ (ns:List Int) (vs:List Value),WellAll P h vs (ns.map WData.int)→IntsAre vs ns:=by
 intro ns
 induction ns with
 | nil =>
  intro vs w
  rw [List.map_nil] at w
  cases w
  exact .nil
 | cons n ns ih =>
  intro vs w
  rw [List.map_cons] at w
  cases w with
  | cons a b =>
   cases a
   exact .cons _ _ (ih _ b)
theorem script_of {l:OpenLaw} {n:Nat} (hn:l.most=some n) {P:Params} {h:Heap} {args:List WData} {vals:List Value}
  (hpre:l.row.toRowW.claim.pre args=true) (hwl:WellAll P h vals args) :
  ∃ a vs ns,vals=[Value.ref a]∧args=[WData.list (ns.map WData.int)]∧h.get? a=some { cls:=.type "list",data:=.seq vs.toArray }∧IntsAre vs ns∧ns.length≤n:=by
 have hsh:WShape.hasAll [] args [.list .int]=true:=(pre_splitW hpre).1
 have hc:l.pre.holds [] { args:=args }=true:=(pre_splitW hpre).2
 obtain ⟨d,r,rfl,h1,h2⟩:=hasAllW_cons hsh
 obtain rfl:=hasAllW_nil h2
 obtain ⟨xs,rfl,h3⟩:=hasW_list h1
 obtain ⟨ns,rfl⟩:=items_int h3
 have hlen:ns.length≤n:=by
  unfold OpenLaw.pre at hc
  have h4:(WTm.not (.lt (.lit (.int (n:Int))) (.len (.arg 0)))).holds [] { args:=[.list (ns.map .int)] }=true:=by
   have h4:=(holds_andW hc).1
   rw [hn] at h4
   exact h4
  have h5:=condW_of h4 (w_not (w_lt w_lit (w_len_list (w_arg rfl))))
  rw [List.length_map] at h5
  refine Nat.le_of_not_lt fun q=>?_
  have q':(n:Int) < ((ns.length:Nat):Int):=by omega
  first
   | (rw [decide_eq_true q'] at h5;exact absurd h5 (by decide))
   | (simp at h5;omega)
 cases hwl with
 | cons w1 w2 =>
  cases w2
  cases w1 with
  | list ho hall=>exact ⟨_,_,ns,rfl,rfl,ho,ints_of_wellAll ns _ hall,hlen⟩
theorem post_true (l:OpenLaw) (args:List WData):l.row.toRowW.claim.post args (.bool true) args=true :=
 postW_of (r:=l.row.toRowW) (X:=(true == true))
  (show WShape.has [] (.bool true) .bool=true by first | rfl | decide | simp [WShape.has,WShape.arms,WShape.armsAll])
  (show (WTm.eq .res (.lit (.bool true))).value [] { args:=args,res:=some (.bool true),after:=args }=some (.bool (true == true)) from w_eq_bool (w_res rfl) w_lit) rfl
theorem attach_call {l:OpenLaw} {n:Nat} {q:Program} {loose:List Str} {XP:(Str→Option Value)→Heap→Prop} {YP:World→Heap→Prop} {d:DefRec}
  (hn:l.most=some n) (hdf:d.params.defaults=[])
  (call:∀ (w:World) (s₀ s₁:Shared) (mg mb:Str→Option Value) (fa:Addr) (o:Obj) (pm cd doc:Value) (a:Addr) (vs:List Value) (ns:List Int),
   Ground q loose [] XP w s₀ mg mb s₁.heap→YP w s₁.heap →
   s₁.heap.get? fa=some o→o.data=.func (docDef d.name d.params d.body d.scope pm cd doc)→s₁.heap.CodeRec cd d.name→mg d.name=some (.ref fa) →
   s₁.heap.get? a=some { cls:=.type "list",data:=.seq vs.toArray }→IntsAre vs ns→ns.length≤n→s₁.gens=#[] →
   codeAny (model l.prog w) callerA (.call (.ref fa) ⟨[.ref a],[]⟩) (fun r s'=>r=.ok (.ret (.bool true))∧OldK s₁.heap s'.heap∧s'.os=s₁.os∧AllBare s'.gens) s₁) :
  WalkO q loose XP YP l.row.toRowW d [] (fun f vs=>PySem.call f vs):=by
 intro w s₀ s₁ mg mb G Y fa o pm cd doc dV kV ho hd hcd hD hmg hg args vals as hpre hlay hrd hwl hlo
 obtain rfl:dV=.none:=Dflts.none hD hdf
 obtain rfl:kV=.none:=Dflts.noKw hD
 obtain ⟨a,vs,ns,rfl,rfl,hobj,hints,hlen⟩:=script_of hn hpre hwl
 refine enter_call (codeAny_mono (call w s₀ s₁ mg mb fa o pm cd doc a vs ns G Y ho (fd_plain hd) hcd hmg hobj hints hlen hg) fun r s' hq=>?_)
 obtain ⟨rfl,h2,h3,h4⟩:=hq
 exact ⟨.inl ⟨.bool true,.bool true,[],rfl,fun _=>rfl,.bool true,post_true l _,fun _=>⟨List.Pairwise.nil,fun _ hm=>(nomatch hm)⟩⟩,h2,h3,h4⟩
section
variable {prog:Program} {w:World} {A:Around} {E:Value→Shared→Prop} {s:Shared} {K:Frag}
end
end Att
namespace L2
open PySem PySem.Spec PyProof.Rows
theorem vals_ints:∀ {vs:List Value} {ns:List Int},IntsAre vs ns→Vals (ns.map V.int) vs
 | _,_,.nil=>.nil
 | _,_,.cons n t h=>.cons ⟨t,rfl⟩ (vals_ints h)
def Only (H:Hp):Prop:=∀ b,H b=none∨∃ o xs,H b=some (.frz o (.lst xs))
theorem law_call {P:Program} {w:World} {K:PySem.W.Frag} {mg mb:Str→Option Value} {CX:CXT} {k:Nat} {fa a:Addr} {fd:FuncData} {x:Str} {sp:Sp} {s₁:Shared} {vs:List Value} {ns:List Int}
  (KX:K.In s₁.heap) (hns:s₁.heap.Ns mainGlobals mg) (hb:s₁.heap.Ns builtinsNs mb) (hbb:∀ x:Str,x≠"__name__"→mb x=bootBuiltins x) (hlim:s₁.heap.NoLimit) (hg:s₁.gens=#[])
  (ha:s₁.heap.get? a=some { cls:=.type "list",data:=.seq vs.toArray }) (hi:IntsAre vs ns) (hl:ns.length≤sizeLine) (hr:Room k callerA)
  (F:∀ base:Heap,K.In base→base.Ns mainGlobals mg→FnOk P w K mg base CX k fa fd [x] sp) (hbind:∀ (s:Shared) (u:Value),BindsTo s fd ⟨[u],[]⟩ [(x,u)])
  (hsp:∀ H:Hp,Only H→SqL K H a (ns.map V.int)→sp [.ref a] H (fun v _=>v=.bl true) fun _ _ _=>False)
  (hCX:∀ H e s',CX [] H s₁ (fun _ _ _=>False) e s'→False) :
  codeAny (model P w) callerA (.call (.ref fa) ⟨[.ref a],[]⟩) (fun r s'=>r=.ok (.ret (.bool true))∧OldK s₁.heap s'.heap∧s'.os=s₁.os∧AllBare s'.gens) s₁:=by
 have rv:=vals_ints hi
 have lenV:=hi.length
 have core:∀ H:Hp,Only H→SqL K H a (ns.map V.int)→HOk P w H s₁.heap→(∀ b,H b≠none→b=a)→(H a≠none→K.lookup a=none) →
   codeAny (model P w) callerA (.call (.ref fa) ⟨[.ref a],[]⟩) (fun r s'=>r=.ok (.ret (.bool true))∧OldK s₁.heap s'.heap∧s'.os=s₁.os∧AllBare s'.gens) s₁:=by
  intro H hO hS hok hA hK
  have base_of:∀ {b:Addr} {o:Obj},s₁.heap.get? b=some o→H b=none→(hidT s₁.heap H).get? b=some o:=fun e n=>hidT_get e n
  have noA:∀ {b:Addr} {o:Obj} {es:Array DictEntry} {ep:Nat},s₁.heap.get? b=some o→o.data=.dict es ep→H b=none:=fun {b o es ep} e d=>by
   cases q:H b with
   | none=>rfl
   | some u =>
    have e':b=a:=hA b (by rw [q];simp)
    subst e'
    rw [ha] at e;cases e
    have d':Data.seq vs.toArray _=Data.dict es ep:=d
    cases d'
  have nsK:∀ {b:Addr} {m:Str→Option Value},s₁.heap.Ns b m→(hidT s₁.heap H).Ns b m:=fun {b m} ⟨o,es,ep,e,d,r⟩=>⟨o,es,ep,base_of e (noA e d),d,r⟩
  have hKb:K.In (hidT s₁.heap H):=fun b o e=>base_of (KX b o e) (by
   cases q:H b with
   | none=>rfl
   | some u =>
    have e':b=a:=hA b (by rw [q];simp)
    subst e'
    rw [hK (by rw [q];simp)] at e;cases e)
  have hM:Mod K mg (hidT s₁.heap H):=⟨hKb,nsK hns,⟨mb,nsK hb,hbb⟩,let ⟨mc,h1,h2⟩:=hlim;⟨mc,nsK h1,h2⟩⟩
  have e0:Env0 P w K mg (hidT s₁.heap H) callerA [] s₁ H:=⟨rfl,hM,fun b o e=>of_hidT e,Nat.le_of_eq (hidT_size _ _),trivial,fun b hb=>absurd (show b∈([]:List Addr) from hb) (by simp),hok,.of_eq hg⟩
  refine codeAny_mono ((F _ hKb (nsK hns)).run callerA [] s₁ H ⟨[.ref a],[]⟩ [.ref a] [.ref a] _ _ hr e0 (hbind s₁ (.ref a)) (.cons rfl .nil) (hsp H hO hS)) fun r s' h=>?_
  cases r with
  | error e=>exact (hCX H e s' h).elim
  | ok fl =>
   cases fl with
   | next=>exact False.elim h
   | brk=>exact False.elim h
   | cont=>exact False.elim h
   | ret u =>
    obtain ⟨v,H',os,bare,un,hok',r',q⟩:=h
    have q':v=.bl true:=q
    subst q'
    obtain rfl:u=Value.bool true:=r'
    refine ⟨rfl,OldK.of_keep fun b o e=>?_,os,bare⟩
    cases q:H b with
    | none=>exact un.keep b o e q (by intro z;exact absurd (show b∈([]:List Addr) from z) (by simp)) (by simp)
    | some u =>
     rcases hO b with z | ⟨ob,xs,z⟩
     ·rw [q] at z;cases z
     ·have z2:=un.frzs b ob _ z
      obtain ⟨e1,_⟩:=hok b _ z
      obtain ⟨e2,_⟩:=hok' b _ z2
      rw [e] at e1;cases e1
      exact e2
 cases hk:K.lookup a with
 | some o =>
  have e:=KX a o hk
  rw [ha] at e
  cases e
  refine core (fun _=>none) (fun _=>.inl rfl) (.inr ⟨_,vs.toArray,_,hk,rfl,rfl,rfl,by rw [List.size_toArray,lenV];exact hl,by simpa using rv⟩) (fun b u z=>by have z':(none:Option HO)=some u:=z;cases z') (fun b z=>absurd rfl z) fun z=>absurd rfl z
 | none =>
  refine core (fun b=>if b=a then some (.frz { cls:=.type "list",data:=.seq vs.toArray } (.lst (ns.map V.int))) else none) (fun b=>?_) (.inl (.inr ⟨{ cls:=.type "list",data:=.seq vs.toArray },if_pos rfl⟩)) (fun b u z=>?_) (fun b z=>?_) fun _=>hk
  ·by_cases hb:b=a
   ·exact .inr ⟨_,_,if_pos hb⟩
   ·exact .inl (if_neg hb)
  ·by_cases hb:b=a
   ·have z':=(if_pos hb).symm.trans z
    cases z'
    subst hb
    exact ⟨ha,by rw [List.length_map];exact hl,vs,_,rv,ha⟩
   ·have z':=(if_neg hb).symm.trans z
    cases z'
  ·by_cases hb:b=a
   ·exact hb
   ·exact absurd (if_neg hb) z
end L2
namespace L2
open PySem PySem.Spec PyProof.Rows
abbrev KOf {K:PySem.W.Frag} {h:Heap} (_:K.In h):PySem.W.Frag:=K
theorem walk_of {l:PySem.W.OpenLaw} {n k:Nat} {q:Program} {loose:List Str} {XP:(Str→Option Value)→Heap→Prop} {YP:World→Heap→Prop} {d:DefRec} {K:Params→PySem.W.Frag} {CX:World→CXT} {sp:World→Sp} {x:Str}
  (hn:l.most=some n) (hn2:n≤sizeLine) (hdf:d.params.defaults=[]) (hr:Room k callerA)
  (hY:∀ (w:World) (h:Heap),YP w h→(K w.params).In h)
  (F:∀ (w:World) (mg:Str→Option Value) (fa:Addr) (h:Heap),(K w.params).In h→h.Ns mainGlobals mg→mg d.name=some (.ref fa) →
   ∃ fd:FuncData,(∀ (s:Shared) (u:Value),BindsTo s fd ⟨[u],[]⟩ [(x,u)]) ∧
    ∀ base:Heap,(K w.params).In base→base.Ns mainGlobals mg→FnOk l.prog w (K w.params) mg base (CX w) k fa fd [x] (sp w))
  (hsp:∀ (w:World) (H:Hp) (a:Addr) (ns:List Int),ns.length≤n→Only H→SqL (K w.params) H a (ns.map V.int)→sp w [.ref a] H (fun v _=>v=.bl true) fun _ _ _=>False)
  (hCX:∀ (w:World) (H:Hp) (s:Shared) (e:Value) (s':Shared),CX w [] H s (fun _ _ _=>False) e s'→False) :
  PySem.W.WalkO q loose XP YP l.row.toRowW d [] (fun f vs=>PySem.call f vs):=by
 refine Att.attach_call hn hdf fun w s₀ s₁ mg mb fa o pm cd doc a vs ns G Y ho hd hcd hmg hobj hints hlen hg=>?_
 have KX:=hY w _ Y
 obtain ⟨fd,hb,hF⟩:=F w mg fa _ KX G.T.g hmg
 exact law_call KX G.T.g G.T.b G.T.builtins G.T.nolimit hg hobj hints (Nat.le_trans hlen hn2) hr hF hb (fun H hO hS=>hsp w H a ns hlen hO hS) fun H e s'=>hCX w H s₁ e s'
theorem walk_ofK {l:PySem.W.OpenLaw} {n k:Nat} {q:Program} {loose:List Str} {XP:(Str→Option Value)→Heap→Prop} {YP:World→Heap→Prop} {d:DefRec} {K:Params→PySem.W.Frag} {CX:CXT} {sp:PySem.W.Frag→Sp} {x:Str}
  (hn:l.most=some n) (hn2:n≤sizeLine) (hdf:d.params.defaults=[]) (hr:Room k callerA)
  (hY:∀ (w:World) (h:Heap),YP w h→(K w.params).In h)
  (F:∀ (w:World) (mg:Str→Option Value) (fa:Addr) (h:Heap),(K w.params).In h→h.Ns mainGlobals mg→mg d.name=some (.ref fa) →
   ∃ fd:FuncData,(∀ (s:Shared) (u:Value),BindsTo s fd ⟨[u],[]⟩ [(x,u)]) ∧
    ∀ base:Heap,(K w.params).In base→base.Ns mainGlobals mg→FnOk l.prog w (K w.params) mg base CX k fa fd [x] (sp (K w.params)))
  (hsp:∀ (K:PySem.W.Frag) (H:Hp) (a:Addr) (ns:List Int),ns.length≤n→Only H→SqL K H a (ns.map V.int)→sp K [.ref a] H (fun v _=>v=.bl true) fun _ _ _=>False)
  (hCX:∀ (H:Hp) (s:Shared) (e:Value) (s':Shared),CX [] H s (fun _ _ _=>False) e s'→False) :
  PySem.W.WalkO q loose XP YP l.row.toRowW d [] (fun f vs=>PySem.call f vs) :=
 walk_of (K:=K) (CX:=fun _=>CX) (sp:=fun w=>sp (K w.params)) hn hn2 hdf hr hY F (fun w H a ns h1 h2 h3=>hsp (K w.params) H a ns h1 h2 h3) fun _ H s e s'=>hCX H s e s'
end L2
namespace L2
open PySem PySem.Spec PyProof.Rows
def inClass (s:Stmt) (j:Nat):Stmt:=match s with
 | .ClassDef _ _ _ body _ _ _ _ _ _ _=>body.getD j (.Pass ⟨0,0,0,0⟩)
 | _=>.Pass ⟨0,0,0,0⟩
def defArgs (s:Stmt):Arguments:=match s with
 | .FunctionDef _ a _ _ _ _ _ _ _ _=>a
 | _=>{ posonlyargs:=[],args:=[],vararg:=none,kwonlyargs:=[],kw_defaults:=[],kwarg:=none,defaults:=[] }
def defBody (s:Stmt):List Stmt:=match s with
 | .FunctionDef _ _ b _ _ _ _ _ _ _=>b
 | _=>[]
def defScope (s:Stmt):Scope:=match s with
 | .FunctionDef _ _ _ _ _ _ sc _ _ _=>sc
 | _=>{ kind:=.function,names:=[],isGenerator:=false,isCoroutine:=false }
abbrev CX0:CXT:=fun _ _ _ _ _ _=>False
abbrev E0:XK:=fun _ _ _=>False
theorem pass0 {X:Cx}:Passes CX0 X E0:=fun _ _ _ _ _ _ _ h=>h.elim
structure Fun (K:PySem.W.Frag) (x qual:Str) (st:Stmt) (f:Addr) (fd:FuncData):Prop where
 ex:∃ (oc:Value) (od:Option Addr) (kV doc pm:Value) (an:Option Addr) (cdv ct:Value) (osl:Array (Option Value)),
  fd=PySem.W.fnOf x qual (defArgs st) (defBody st) (defScope st) .none kV doc pm an cdv ct∧K.lookup f=some ⟨oc,od,.func fd,osl⟩∧PySem.W.codeIn K cdv qual=true
 kp:PySem.W.keepIn K (.ref f)=true
section
variable {P:Program} {w:World} {K:PySem.W.Frag} {mg:Str→Option Value} {base:Heap}
theorem Fun.ok {x qual:Str} {st:Stmt} {f:Addr} {fd:FuncData} {N ps:List Str} {k:Nat} {sp:Sp} (F:Fun K x qual st f fd) (S:FnScope N ps (defScope st)) (len:∀ vs H Q E,sp vs H Q E→vs.length=ps.length)
  (hbody:∀ (cdv:Value) (A:Around) (outer:List Env) (s:Shared) (H:Hp) (vs:List V) (Q:VK) (E:XK),Room k (A.deeper (envOfC qual (defScope st) s.heap.objs.size f cdv))→sp vs H Q E →
   ∃ t,PSs (cxOf CX0 P w K mg base N qual (defScope st) f cdv A outer s H E).nox (defBody st) t∧t { nx:=fun _ H'=>Q .non H',rt:=Q } (start N vs) H):FnOk P w K mg base CX0 (k+1) f fd ps sp:=by
 obtain ⟨oc,od,kV,doc,pm,an,cdv,ct,osl,rfl,lk,hcd⟩:=F.ex
 refine fn_of lk hcd S len fun A outer s H vs Q E hr hsp=>?_
 obtain ⟨t,h,q⟩:=hbody cdv A outer s H vs Q E hr hsp
 exact ⟨t,h.nox,q⟩
theorem Fun.binds {x qual:Str} {st:Stmt} {f:Addr} {fd:FuncData} {ps:List Str} (F:Fun K x qual st f fd)
  (h:∀ (kV doc pm:Value) (an:Option Addr) (cdv ct:Value) (us:List Value),us.length=ps.length→bindArgs (PySem.W.fnOf x qual (defArgs st) (defBody st) (defScope st) .none kV doc pm an cdv ct) ⟨us,[]⟩=pure (ps.zip us)):Binds K fd ps []:=by
 obtain ⟨oc,od,kV,doc,pm,an,cdv,ct,osl,rfl,lk,hcd⟩:=F.ex
 exact .all (h kV doc pm an cdv ct)
theorem fun_mk {x qual:Str} {st:Stmt} {f:Addr} {oc:Value} {od an:Option Addr} {osl:Array (Option Value)} {kV doc pm cdv ct:Value} (l:K.lookup f=some ⟨oc,od,.func (PySem.W.fnOf x qual (defArgs st) (defBody st) (defScope st) .none kV doc pm an cdv ct),osl⟩)
  (c:PySem.W.codeIn K cdv qual=true) (k:PySem.W.keepIn K (.ref f)=true):Fun K x qual st f (PySem.W.fnOf x qual (defArgs st) (defBody st) (defScope st) .none kV doc pm an cdv ct):=⟨⟨oc,od,kV,doc,pm,an,cdv,ct,osl,rfl,l,c⟩,k⟩
end
theorem small1000 {n:Nat} (h:n≤1000):n < sizeLine:=Nat.lt_of_le_of_lt h (by decide)
section
variable {X:Cx}
theorem pv (i:Nat) {x:Str} {pos:Pos} (hN:X.N[i]?=some x:=by rfl) (hv:Vis X.env.scope x:=by first | exact Or.inl rfl | exact Or.inr (Or.inl rfl) | exact Or.inr (Or.inr rfl)) (hd:(x == ("__debug__":Str))=false:=by decide)
  (hcd:(x == ("__classdict__":Str))=false:=by decide):PE X (.Name x pos) (tVar i):=pe_var hN hv hd hcd
end
def Same (H H':Hp):Prop:=∀ b o,H b=some o→H' b=some o
theorem Same.refl (H:Hp):Same H H:=fun _ _ h=>h
theorem Same.trans {H H1 H2:Hp} (a:Same H H1) (b:Same H1 H2):Same H H2:=fun c o h=>b c o (a c o h)
theorem Same.free {H H':Hp} (e:Same H H') {l:Addr} (h:H' l=Option.none):H l=Option.none:=by
 cases q:H l with
 | none=>rfl
 | some o =>
  rw [e l o q] at h
  cases h
theorem Same.seq {K:PySem.W.Frag} {H H':Hp} {a:Addr} {xs:List V} (e:Same H H') (h:SqL K H a xs):SqL K H' a xs:=by
 rcases h with (h | ⟨o,h⟩) | h
 ·exact .inl (.inl (e _ _ h))
 ·exact .inl (.inr ⟨o,e _ _ h⟩)
 ·exact .inr h
section
variable {X:Cx}
end
section
variable {κ:Type} [DecidableEq κ]
theorem nd_snoc:∀ {l:List κ} {k:κ},l.Nodup→¬ k∈l→(l++[k]).Nodup
 | [],k,_,_=>by simp
 | a :: r,k,h,hk=>by
  obtain ⟨h1,h2⟩:=List.nodup_cons.mp h
  show (a :: (r++[k])).Nodup
  refine List.nodup_cons.mpr ⟨fun m=>?_,nd_snoc h2 fun m=>hk (List.mem_cons.mpr (Or.inr m))⟩
  rcases List.mem_append.mp m with q | q
  ·exact h1 q
  ·exact hk (List.mem_cons.mpr (Or.inl (List.mem_singleton.mp q).symm))
end
end L2
namespace PySem
open Sem (wp)
theorem forIn_cl {env:Env} {f:Str×NameKind→List (Str×Addr)→Sem (ForInStep (List (Str×Addr)))}
  (h1:∀ x r,x.2≠.free→f x r=pure (.yield r)) (h2:∀ x r c,x.2=.free→env.cells.lookup x.1=some c→f x r=pure (.yield ((x.1,c) :: r))) :
  ∀ (l:List (Str×NameKind)) (acc:List (Str×Addr)),(∀ x∈l,x.2=.free→∃ c,env.cells.lookup x.1=some c)→(∀ x c,acc.lookup x=some c→env.cells.lookup x=some c) →
   ∃ cl,forIn l acc f=pure cl∧(∀ x c,cl.lookup x=some c→env.cells.lookup x=some c)∧(∀ x∈l,x.2=.free→∃ c,cl.lookup x.1=some c)∧(∀ x c,acc.lookup x=some c→∃ c',cl.lookup x=some c')
 | [],acc,_,ha=>⟨acc,rfl,ha,(fun _ h=>nomatch h),(fun x c h=>⟨c,h⟩)⟩
 | x :: l,acc,h,ha=>by
  by_cases hf:x.2=.free
  ·obtain ⟨c,hc⟩:=h x List.mem_cons_self hf
   have hself:((x.1,c) :: acc).lookup x.1=some c:=by rw [List.lookup_cons];simp
   have hne:∀ y,y≠x.1→((x.1,c) :: acc).lookup y=acc.lookup y:=fun y e=>by
    have:(y == x.1)=false:=beq_eq_false_iff_ne.mpr e
    rw [List.lookup_cons,this]
   have ha':∀ y d,((x.1,c) :: acc).lookup y=some d→env.cells.lookup y=some d:=fun y d hy=>by
    by_cases e:y=x.1
    ·subst e;rw [hself] at hy;cases hy;exact hc
    ·rw [hne y e] at hy;exact ha y d hy
   obtain ⟨cl,e1,e2,e3,e4⟩:=forIn_cl h1 h2 l ((x.1,c) :: acc) (fun y hy=>h y (List.mem_cons_of_mem _ hy)) ha'
   refine ⟨cl,?_,e2,fun y hy hk=>?_,fun y d hy=>?_⟩
   ·rw [List.forIn_cons,h2 x acc c hf hc,pure_bind];exact e1
   ·rcases List.mem_cons.mp hy with rfl | hy
    ·exact e4 _ c hself
    ·exact e3 y hy hk
   ·by_cases e:y=x.1
    ·subst e;exact e4 _ c hself
    ·exact e4 y d (by rw [hne y e];exact hy)
  ·obtain ⟨cl,e1,e2,e3,e4⟩:=forIn_cl h1 h2 l acc (fun y hy=>h y (List.mem_cons_of_mem _ hy)) ha
   refine ⟨cl,?_,e2,fun y hy hk=>?_,e4⟩
   ·rw [List.forIn_cons,h1 x acc hf,pure_bind];exact e1
   ·rcases List.mem_cons.mp hy with rfl | hy
    ·exact (hf hk).elim
    ·exact e3 y hy hk
theorem closure_ok {scope:Scope} {env:Env} (h:∀ x∈scope.names,x.2=.free→∃ c,env.cells.lookup x.1=some c) :
  ∃ cl,closureFor scope env=pure cl∧(∀ x c,cl.lookup x=some c→env.cells.lookup x=some c)∧∀ x∈scope.names,x.2=.free→∃ c,cl.lookup x.1=some c:=by
 obtain ⟨cl,e1,e2,e3,_⟩:=forIn_cl (env:=env) (f:=fun x r=>match x with | (name,kind)=>if (kind == .free)=true then (do let c ← cellOf env name;pure (ForInStep.yield ((name,c) :: r))) else pure (ForInStep.yield r))
  (fun x r hx=>by
   obtain ⟨n,k⟩:=x
   have:(k == NameKind.free)=false:=by simpa using hx
   simp only [this,Bool.false_eq_true,if_false])
  (fun x r c hx hc=>by
   obtain ⟨n,k⟩:=x
   have hx:k=.free:=hx
   have hc:env.cells.lookup n=some c:=hc
   subst hx
   simp only [cellOf,hc,beq_self_eq_true,if_true,pure_bind]) scope.names [] h (by simp)
 refine ⟨cl,?_,e2,e3⟩
 unfold closureFor
 first
  | (rw [show _=pure cl from e1];rfl)
  | exact (congrArg (· >>= pure) e1).trans (pure_bind ..)
section
variable {prog:Program} {w:World} {A:Around} {R:Result→Shared→Prop} {s:Shared}
theorem codeAny_compLoop_gen {elt target iter:Expr} {scope:Scope} {pos:Pos} {it acc:Value} {env:Env} (I:Nat→Shared→Prop)
  (turn:∀ n s,I n s→wpAny (model prog w) A (pyNext it) (fun r s₁=>match r with
   | none=>R (.ok .next) s₁
   | some v=>wpAny (model prog w) A (letOwnedTupleGo target it v) (fun _ s₂=>wpAny (model prog w) A (assign target env v) (fun _ s₃=>wpAny (model prog w) A (eval elt env) (fun x s₄ =>
     wpAny (model prog w) A (call (.builtin "list.append") [acc,x]) (fun _ s₅=>∃ m,m < n∧I m s₅) (fun _ _=>False) s₄) (fun _ _=>False) s₃) (fun _ _=>False) s₂) (fun _ _=>False) s₁) (fun _ _=>False) s)
  (n:Nat) (h:I n s):codeAny (model prog w) A (.compLoop (.ListComp elt [⟨target,iter,[],0⟩] scope pos) 0 it acc env) R s:=by
 refine codeAny_loop rfl I (fun n s hI=>?_) n h
 show wpAny _ _ ((compTurn (.ListComp elt [⟨target,iter,[],0⟩] scope pos) 0 it acc env).onRaise (fun x=>do noteFrame x env;theTreesLotGoes x)) _ _ s
 refine wpAny_noted ?_
 rw [compTurn_list1]
 refine wpAny_bind (wpAny_standAt (wpAny_bind (wpAny_mono (turn n s hI) (fun r s₁ h₁=>?_) fun _ _ h'=>h'.elim)))
 cases r with
 | none=>exact wpAny_pure h₁
 | some v =>
  exact wpAny_bind (wpAny_mono h₁ (fun _ s₂ h₂=>wpAny_bind (wpAny_mono h₂ (fun _ s₃ h₃=>wpAny_bind (wpAny_bind (wpAny_mono h₃ (fun x s₄ h₄=>wpAny_bind (wpAny_mono h₄
   (fun _ s₅ h₅=>wpAny_pure (wpAny_pure ⟨rfl,h₅⟩)) fun _ _ h'=>h'.elim)) fun _ _ h'=>h'.elim))) fun _ _ h'=>h'.elim)) fun _ _ h'=>h'.elim)
end
end PySem
namespace L2
open PySem PySem.Spec PyProof.Rows
section
variable {X:Cx} {pins:List (Addr×Obj)} {σ:St} {H:Hp} {s:Shared} {h':Heap}
theorem Inv.turnL {t':Nat} {ch:List Addr} {t:Addr} {o:HO} (I:Inv X pins σ H s) (hf:∀ b∈ch,FpOk X pins H b)
  (k:∀ b u,b∉ch→s.heap.get? b=some u→h'.get? b=some u) (hp:s.heap.objs.size≤t) (new:ObjOk X.prog X.w (upd H t o) h' t o) :
  Inv X pins σ (upd H t o) { s with heap:=h',toks:=t' }:=by
 have hn:H t=none:=I.hok.fresh hp
 have nch:∀ b u,H b=some u→b∉ch:=fun b u e z=>by rw [(hf b z).1] at e;cases e
 have net:∀ b u,s.heap.get? b=some u→b≠t:=fun b u e=>Nat.ne_of_lt (Nat.lt_of_lt_of_le (Heap.lt_size e) hp)
 refine I.step (g':=s.gens) (d':=s.drawn) (ch:=ch) (fun b hb=>?_) (fun b u _ _ hc e _=>k b u hc e) (fun b u _ _ hc e _=>⟨u.slots,k b u hc e⟩)
  (fun b u _ e n=>by rw [upd_ne (net b u e)];exact n) (fun b u hc e=>⟨u,k b u hc e⟩)
  (fun b xs e=>by rw [upd_ne (ne_of_none e hn)];exact e) (fun b u xs e=>by rw [upd_ne (ne_of_none e hn)];exact e)
  (fun b ps e=>⟨#[],by rw [upd_ne (ne_of_none e hn),e];simp⟩) (fun m hm=>?_) (fun b u e=>?_) I.bare
 ·obtain ⟨_,f1,_,f3,f4,f5⟩:=hf b hb
  exact ⟨f3,f1,f4,f5⟩
 ·obtain ⟨ob,es,ep,ho,r⟩:=hm
  exact ⟨ob,es,ep,k _ ob (fun z=>(hf _ z).2.1 rfl) ho,r⟩
 ·by_cases hb:b=t
  ·subst hb;rw [upd_same] at e;cases e;exact new
  ·rw [upd_ne hb] at e
   refine (I.hok b u e).stay (fun c v hc q=>k c v ?_ q) (fun c q=>by rw [upd_ne (ne_of_none q hn)];exact q) fun c xs q=>by rw [upd_ne (ne_of_none q hn)];exact q
   rcases hc with z | z
   ·rw [z];exact nch b u e
   ·exact nch c _ z
end
def Ite (K:PySem.W.Frag) (a:Addr):It :=
  ⟨fun i H=>∃ xs x,SqL K H a xs∧xs[i]?=some x,
   fun i H x H'=>∃ t v,x=.ref t∧H t=none∧H'=upd H t (.tup [.int (i:Int),v])∧∀ xs,SqL K H a xs→xs[i]?=some v,
   fun i H=>∃ xs,SqL K H a xs∧xs.length≤i⟩
theorem turn_enum {P:Program} {w:World} {K:PySem.W.Frag} {es:List Expr} {kk:Nat} {pos:Pos} (a it e:Addr) (hne:e≠it) :
  Turn P w K (.Tuple es kk pos) (Ite K a) [e,it] e (fun i h=>(∃ old,IsEnum h e it ((i:Nat):Int) old)∧h.IsListIter it a i) where
 mem:=by simp
 obj:=fun i h st b hb=>by
  obtain ⟨⟨old,he⟩,hi⟩:=st
  rcases List.mem_cons.mp hb with rfl | hb
  ·exact ⟨_,he,fun v z=>by
    have z':Data.fields _=Data.cell v:=z
    cases z'⟩
  ·have eb:=List.mem_singleton.mp hb
   subst eb
   obtain ⟨o,e1,c,d⟩:=hi
   exact ⟨o,e1,fun v z=>by rw [d] at z;cases z⟩
 keep:=fun i h h' st k=>by
  obtain ⟨⟨old,he⟩,hi⟩:=st
  exact ⟨⟨old,k e (by simp) _ he⟩,hi.at fun o q=>k it (by simp) o q⟩
 item:=by
  intro X hP hw hK hc i pins s σ H E I hf st hg
  subst hP hw hK
  obtain ⟨⟨old,he⟩,hi⟩:=st
  obtain ⟨xs,x,hq,hx⟩:=hg
  obtain ⟨its,rv,p,hz⟩:=I.list hq
  obtain ⟨u,hu,ru⟩:=rv.get hx
  have hel:e < s.heap.objs.size:=Heap.lt_size he
  have hil:it < s.heap.objs.size:=by obtain ⟨o,q,_⟩:=id hi;exact Heap.lt_size q
  refine wpAny_pyNext_enum_item he hi p.isList (x:=u) (by simpa using hu) hne fun h1 ho hi1 hT hsz hk=>?_
  refine ⟨_,rfl,wpAny_letOwnedTupleGo_enum ho fun h2 he2 hs2=>?_⟩
  replace hs2:Heap.SameBut e h1 h2:=hs2
  have hT2:h2.get? s.heap.objs.size=some { cls:=.type "tuple",data:=.seq #[.int (i:Int) s.toks,u] }:=(hs2.2 _ (Nat.ne_of_gt hel)).trans hT
  have I1:Inv X pins σ (upd H s.heap.objs.size (.tup [.int (i:Int),x])) { s with heap:=h2,toks:=s.toks+1 } :=
   I.turnL (ch:=[e,it]) hf (fun b o hb q=>by
    have hbe:b≠e:=fun z=>hb (by simp [z])
    have hbi:b≠it:=fun z=>hb (by simp [z])
    exact hs2.extBut b o hbe (hk b o hbe hbi q)) (Nat.le_refl _)
    ⟨by show 2≤sizeLine;decide,[.int (i:Int) s.toks,u],.cons ⟨_,rfl⟩ (.cons ru .nil),⟨_,hT2,rfl,_,rfl⟩⟩
  refine ⟨.ref s.heap.objs.size,_,I1,rfl,⟨_,x,rfl,I.hok.fresh (Nat.le_refl _),rfl,fun ys hy=>by rw [I.list_inj hy hq];exact hx⟩,⟨⟨u,?_⟩,?_⟩,fun b hb=>?_⟩
  ·have:((i+1:Nat):Int)=(i:Int)+1:=by push_cast;rfl
   rw [this];exact he2
  ·exact hi1.extBut hs2.extBut (Ne.symm hne)
  ·have hbl:b < s.heap.objs.size:=by
    rcases List.mem_cons.mp hb with rfl | hb
    ·exact hel
    ·rw [List.mem_singleton.mp hb];exact hil
   rw [upd_ne (Nat.ne_of_lt hbl)]
   exact (hf b hb).1
 done:=by
  intro X hP hw hK hc i pins s σ H E I hf st hg
  subst hP hw hK
  obtain ⟨⟨old,he⟩,hi⟩:=st
  obtain ⟨xs,hq,hx⟩:=hg
  obtain ⟨its,rv,p,hz⟩:=I.list hq
  obtain ⟨f0,f1,f2,f3,f4,f5⟩:=hf it (by simp)
  have hl:=rv.length
  exact wpAny_pyNext_enum_end (I.ok.hd hc) he hi p.isList (by simp;omega) fun h' eb=>⟨rfl,I.turned (t':=s.toks) (fun b o hb e=>eb b o hb e) f0 f1 f3 f4 f5⟩
 self:=fun _ _ _ _ _ st h=>by
  obtain ⟨⟨old,he⟩,_⟩:=st
  exact wpAny_pyIter_enum he h
section
variable {X:Cx}
def iEnum (K:PySem.W.Frag) (ta:TA):TI:=fun σ H R=>ta σ H fun vs H1=>∃ a,vs=[.ref a]∧(∃ xs,SqL K H1 a xs)∧R (Ite K a) H1
theorem pi_enum {es:List Expr} {kk:Nat} {p0:Pos} {l:Expr} {ta:TA} {p pos:Pos} (hg:Gl X "enumerate") (hm:X.mg "enumerate"=none) (ha:PA X [l] ta) (hs:starEach [l] X.env=[(false,eval l X.env)]:=by rfl) :
  PI X (.Tuple es kk p0) (.Call (.Name "enumerate" p) [l] [] pos) (iEnum X.K ta):=by
 intro pins s σ H R I h
 refine Call_ (ld_blt I hg hm boot_enumerate (PyProof.Rows.callWith_type1 (thn (ha pos pins s σ H _ I h) fun us s1 ⟨vs,H1,I1,r1,q1⟩=>?_) hs rfl))
 obtain ⟨a,e,⟨xs,hq⟩,q⟩:=q1
 subst e
 cases r1 with
 | cons r rr =>
  cases rr
  cases r
  obtain ⟨its,rv,p,hz⟩:=I1.list hq
  refine call_enumerate_list p.isList fun h' he hi hsz hk=>?_
  refine wpAny_pyIter_enum he ?_
  have I2:Inv X pins σ H1 { s1 with heap:=h' }:=I1.kept (t':=s1.toks) hk
  refine ⟨s1.heap.objs.size+1,[s1.heap.objs.size+1,s1.heap.objs.size],_,_,H1,rfl,I2,turn_enum a s1.heap.objs.size (s1.heap.objs.size+1) (Nat.succ_ne_self _),⟨⟨_,he⟩,hi⟩,fun b hb=>?_,q⟩
  have hb':s1.heap.objs.size≤b:=by
   rcases List.mem_cons.mp hb with rfl | hb
   ·exact Nat.le_succ _
   ·rw [List.mem_singleton.mp hb];exact Nat.le_refl _
  exact I1.fpOk hb' (I1.hok.fresh hb')
theorem for_enum {K:PySem.W.Frag} {a:Addr} {xs:List V} {g:TG} {tb:TS} {D:Ends} {σ:St} {H:Hp} (Pv:Nat→St→Hp→Prop) (h0:Pv 0 σ H) (hl:∀ i σ H,i≤xs.length→Pv i σ H→SqL K H a xs)
  (hs:∀ i x σ H t,xs[i]?=some x→Pv i σ H→H t=none→g (.ref t) σ (upd H t (.tup [.int (i:Int),x])) fun σ2 H2=>tb { D with nx:=Pv (i+1),ct:=Pv (i+1),bk:=D.nx } σ2 H2) (hd:∀ σ H,Pv xs.length σ H→D.nx σ H) :
  ∃ W:Nat→Nat→St→Hp→Prop,(∃ m,W 0 m σ H)∧∀ i m σ H,W i m σ H →
   ((Ite K a).stop i H∧D.nx σ H)∨((Ite K a).go i H∧∃ N:St→Hp→Prop,(∀ σ' H',N σ' H'→∃ m',m' < m∧W (i+1) m' σ' H')∧∀ x H',(Ite K a).yld i H x H'→g x σ H' fun σ2 H2=>tb { D with nx:=N,ct:=N,bk:=D.nx } σ2 H2):=by
 refine ⟨fun i m σ H=>m=xs.length - i∧i≤xs.length∧Pv i σ H,⟨xs.length,by simp,Nat.zero_le _,h0⟩,?_⟩
 rintro i m σ H ⟨rfl,hi,p⟩
 have q:=hl i σ H hi p
 by_cases hlt:i < xs.length
 ·refine .inr ⟨⟨xs,xs[i],q,by simp [hlt]⟩,Pv (i+1),fun σ' H' p'=>⟨xs.length - (i+1),by omega,rfl,hlt,p'⟩,fun x H' y=>?_⟩
  obtain ⟨t,v,rfl,ht,rfl,y⟩:=y
  exact hs i v σ H t (y xs q) p ht
 ·have e:i=xs.length:=by omega
  subst e
  exact .inl ⟨⟨xs,q,Nat.le_refl _⟩,hd σ H p⟩
end
def relS (scope sc0:Scope):Scope:={ scope with names:=scope.names.map fun (n,k)=>if (k == .free && sc0.kind == .function && sc0.names.lookup n == some .cell) then (n,.cell) else (n,k) }
def blk (X:Cx) (N':List Str) (scope:Scope) (cl:List (Str×Addr)) (C:Addr) (s:Shared) (H:Hp) (ex:List Addr) (pins:List (Addr×Obj)):Cx :=
 { X with N:=N',s₀:=s,H₀:=H,env:=compEnvC scope cl C X.env,outer:=X.stack,ex:=ex,fn:=fun _=>false,pn:=X.pn++pins,xe:=fun _ _=>False }
def capOk (N:List Str) (sc:Scope) (p:Str×Option Nat):Bool :=
 match p.2 with
 | none=>true
 | some j=>N[j]? == some p.1 && sc.names.lookup p.1 == some NameKind.free
structure BlkScope (N:List Str) (sc0 sc:Scope) (N':List Str) (caps:List (Option Nat)):Prop where
 kind:sc.kind=.function
 names:∀ x∈sc.names,x.2=.local→sc.names.lookup x.1=some .local
 nocell:∀ x∈sc.names,x.2≠.cell
 frees:∀ x∈sc.names,x.2=.free→sc0.names.lookup x.1=some .cell∨sc0.names.lookup x.1=some .free
 len:caps.length=N'.length
 cap:((N'.zip caps).all (capOk N sc))=true
 nd:N'.Nodup
def capσ (caps:List (Option Nat)) (σ:St):St:=caps.map fun o=>o.bind fun j=>σ.getD j none
def Wk (σ' σ:St):Prop:=σ'.length=σ.length∧∀ (i:Nat) v,σ'[i]?=some (some v)→σ[i]?=some (some v)
theorem Wk.set {σ:St} {i:Nat} {v:V} (h:σ[i]?=some none):Wk σ (σ.set i (some v)):=by
 refine ⟨by simp,fun j w e=>?_⟩
 by_cases hj:i=j
 ·subst hj;rw [h] at e;cases e
 ·rw [List.getElem?_set_ne hj];exact e
theorem lookup_relS {names:List (Str×NameKind)} {f:Str×NameKind→Str×NameKind} (hf:∀ x,(f x).1=x.1) {x:Str} {k:NameKind} (h:(names.map f).lookup x=some k):∃ y∈names,y.1=x∧(f y).2=k:=by
 induction names with
 | nil=>simp at h
 | cons y r ih =>
  rw [List.map_cons] at h
  have hl:List.lookup x (f y :: r.map f)=match x == (f y).1 with | true=>some (f y).2 | false=>List.lookup x (r.map f):=by
   cases f y with
   | mk a b =>
    simp only [List.lookup_cons]
    cases x == a <;> rfl
  rw [hl] at h
  cases hb:x == (f y).1 with
  | true =>
   rw [hb] at h
   cases h
   exact ⟨y,List.mem_cons_self,by rw [← hf y];exact (beq_iff_eq.mp hb).symm,rfl⟩
  | false =>
   rw [hb] at h
   obtain ⟨z,hz,e1,e2⟩:=ih h
   exact ⟨z,List.mem_cons_of_mem _ hz,e1,e2⟩
section
variable {X:Cx} {pins:List (Addr×Obj)} {σ:St} {H:Hp} {s:Shared} {scope:Scope} {cl:List (Str×Addr)} {C:Addr} {N':List Str} {ex:List Addr} {caps:List (Option Nat)}
theorem blk_ok (I:Inv X pins σ H s) (S:BlkScope X.N X.env.scope scope N' caps) (hcl1:∀ x c,cl.lookup x=some c→X.env.cells.lookup x=some c) (hcl2:∀ x∈scope.names,x.2=.free→∃ c,cl.lookup x.1=some c)
  (hC:s.heap.objs.size≤C) (hf:∀ b∈ex,FpOk X pins H b) (hex:∀ b∈ex,b < s.heap.objs.size):(blk X N' scope cl C s H ex pins).Ok where
 mod:=I.ok.mod
 kind:=S.kind
 glob:=I.ok.glob
 blt:=I.ok.blt
 above:=hC
 inj:=fun x y c hx hy=>I.ok.inj x y c (hcl1 x c hx) (hcl1 y c hy)
 has:=fun x hx=>by
  have hx':(relS scope X.env.scope).names.lookup x=some .cell∨(relS scope X.env.scope).names.lookup x=some .free:=hx
  have fin:∀ k,(k=NameKind.cell∨k=NameKind.free)→(relS scope X.env.scope).names.lookup x=some k→∃ c,cl.lookup x=some c:=fun k hk hl=>by
   obtain ⟨y,hy,e1,e2⟩:=lookup_relS (fun z=>by obtain ⟨n,k⟩:=z;dsimp only;split <;> rfl) hl
   obtain ⟨n,k0⟩:=y
   have e1:n=x:=e1
   subst e1
   have hfree:k0=.free:=by
    dsimp only at e2
    split at e2
    ·rename_i hcond
     simp only [Bool.and_eq_true,beq_iff_eq] at hcond
     exact hcond.1.1
    ·have e2:k0=k:=e2
     rcases hk with rfl | rfl
     ·exact absurd e2 (S.nocell _ hy)
     ·exact e2
   exact hcl2 _ hy hfree
  rcases hx' with h | h
  ·exact fin _ (.inl rfl) h
  ·exact fin _ (.inr rfl) h
 cab:=fun _ _ h=>by cases h
 hd:=I.ok.hd
 frames:=I.ok.frames
 stk:=.inl rfl
 exf:=fun b hb=>⟨Nat.ne_of_lt (Nat.lt_of_lt_of_le (hex b hb) hC),fun x c hc=>(hf b hb).2.2.2.2.1 x c (hcl1 x c hc)⟩
 bs:=I.bs
 bsz:=Nat.le_trans I.ok.bsz I.sz
 noex:=fun b o e hb=>by
  rcases (hf b hb).2.2.2.1 with z | z
  ·exact I.ok.noex b o e z
  ·exact absurd (Nat.lt_of_lt_of_le (Heap.lt_size (I.ok.bs b o e).1) z) (Nat.lt_irrefl _)
 exfs:=fun b hb hm=>by
  rcases List.mem_cons.mp (I.stkSub b hm) with z | z
  ·exact (hf b hb).2.1 z
  ·exact (hf b hb).2.2.1 z
 funs:=I.stack
 frf:=I.stkFree
theorem capσ_get {i:Nat} {v:V} (h:(capσ caps σ)[i]?=some (some v)):∃ j,caps[i]?=some (some j)∧σ[j]?=some (some v):=by
 unfold capσ at h
 rw [List.getElem?_map] at h
 cases hc:caps[i]? with
 | none=>rw [hc] at h;simp at h
 | some o =>
  rw [hc] at h
  cases o with
  | none=>simp at h
  | some j =>
   refine ⟨j,rfl,?_⟩
   have h:σ.getD j none=some v:=by simpa using h
   rw [List.getD_eq_getElem?_getD] at h
   cases hj:σ[j]? with
   | none=>rw [hj] at h;simp at h
   | some w=>rw [hj] at h;simp at h;rw [h]
theorem blk_inv {acc n t':Nat} {h₁:Heap} {m:Str→Option Value} (I:Inv X pins σ H s) (S:BlkScope X.N X.env.scope scope N' caps) (hcl1:∀ x c,cl.lookup x=some c→X.env.cells.lookup x=some c) (hcl2:∀ x∈scope.names,x.2=.free→∃ c,cl.lookup x.1=some c)
  (hC:s.heap.objs.size≤C) (hf:∀ b∈ex,FpOk X pins H b) (hex:∀ b∈ex,b < s.heap.objs.size) (hns:h₁.Ns C m) (old:∀ b o,s.heap.get? b=some o→h₁.get? b=some o)
  (hacc:h₁.get? acc=some { cls:=.type "list",data:=.seq #[] n }) (hge:s.heap.objs.size≤acc) (hne:acc≠C) :
  Inv (blk X N' scope cl C s H ex pins) [] (capσ caps σ) (upd H acc (.lst [])) { s with heap:=h₁,toks:=t' } where
 ok:=blk_ok I S hcl1 hcl2 hC hf hex
 os:=rfl
 bare:=I.bare
 base:=Un.laid old hge (I.hok.fresh hge)
 loc:=⟨m,hns,fun i x v e1 e2 e3=>by
  obtain ⟨j,hj,hv⟩:=capσ_get e2
  have hz:(x,some j)∈N'.zip caps:=by
   have:(N'.zip caps)[i]?=some (x,some j):=by rw [List.getElem?_zip_eq_some];exact ⟨e1,hj⟩
   exact List.mem_of_getElem? this
  have hk:=List.all_eq_true.mp S.cap _ hz
  simp only [capOk,Bool.and_eq_true,beq_iff_eq] at hk
  obtain ⟨hN,hfr⟩:=hk
  have hmem:(x,NameKind.free)∈scope.names:=by
   have e:∀ {l:List (Str×NameKind)},l.lookup x=some .free→(x,NameKind.free)∈l:=fun {l}=>mem_of_lookup
   exact e hfr
  have h0:=S.frees _ hmem rfl
  obtain ⟨m0,hn0,hl⟩:=I.loc
  obtain ⟨u,r,l⟩:=hl j x v hN hv (by
   rcases h0 with h0 | h0
   ·exact .inr (.inl h0)
   ·exact .inr (.inr h0))
  refine ⟨u,r,?_⟩
  have hcase:∃ c,X.env.cells.lookup x=some c∧s.heap.IsCell c (some u):=by
   rcases l with ⟨hk,_⟩ | ⟨_,c,hc,hcell⟩
   ·have hk':X.env.scope.names.lookup x=some .local:=hk
    rcases h0 with h0 | h0 <;> (rw [h0] at hk';cases hk')
   ·exact ⟨c,hc,hcell⟩
  obtain ⟨c,hc,hcell⟩:=hcase
  obtain ⟨c',hc'⟩:=hcl2 _ hmem rfl
  have ec:=hcl1 x c' hc'
  rw [hc] at ec
  cases ec
  refine .inr ⟨?_,c,hc',hcell.keeps old⟩
  have e3':Vis (relS scope X.env.scope) x:=e3
  rcases e3' with h | h | h
  ·exfalso
   obtain ⟨y,hy,q1,q2⟩:=lookup_relS (fun z=>by obtain ⟨n,k⟩:=z;dsimp only;split <;> rfl) h
   obtain ⟨nn,k0⟩:=y
   have q1:nn=x:=q1
   subst q1
   dsimp only at q2
   split at q2
   ·cases q2
   ·have q2:k0=.local:=q2
    subst q2
    have:=S.names _ hy rfl
    have this:scope.names.lookup nn=some .local:=this
    rw [hfr] at this;cases this
  ·exact .inl h
  ·exact .inr h⟩
 cell:=fun x c e=>let ⟨v,z⟩:=I.cell x c (hcl1 x c e);⟨v,z.keeps old⟩
 free:=by
  show upd H acc (.lst []) C=none
  rw [upd_ne (Ne.symm hne)];exact I.hok.fresh hC
 freeC:=fun x c e=>by
  obtain ⟨v,z⟩:=I.cell x c (hcl1 x c e)
  have hl:c≠acc:=Nat.ne_of_lt (Nat.lt_of_lt_of_le z.lt hge)
  rw [upd_ne hl];exact I.freeC x c (hcl1 x c e)
 pin:=fun p hp=>by
  have hp':p∈X.pn++pins:=by
   have:p∈(X.pn++pins)++[]:=hp
   simpa using this
  obtain ⟨e,n,ne,nf,d⟩:=I.pin p hp'
  have hlt:=Heap.lt_size e
  refine ⟨old _ _ e,?_,Nat.ne_of_lt (Nat.lt_of_lt_of_le hlt hC),fun z=>?_,d⟩
  ·rw [upd_ne (Nat.ne_of_lt (Nat.lt_of_lt_of_le hlt hge))];exact n
  ·rcases List.mem_cons.mp (I.stkSub _ z) with z | z
   ·exact ne z
   ·exact nf z
 hok:=I.hok.laid old hge ⟨Nat.zero_le _,[],n,.nil,hacc⟩
 len:=by
  show (capσ caps σ).length=N'.length
  unfold capσ;rw [List.length_map];exact S.len
theorem blk_back {H':Hp} {s':Shared} {σ':St} {pins':List (Addr×Obj)} (I:Inv X pins σ H s) (J:Inv (blk X N' scope cl C s H ex pins) pins' σ' H' s') (hf:∀ b∈ex,FpOk X pins H b):Inv X pins σ H' s' :=
 I.call' (ch:=ex) J.os J.base J.hok J.bare fun b hb=>by
  obtain ⟨_,f1,_,f3,f4,f5⟩:=hf b hb
  exact ⟨f3,f1,f4,f5⟩
theorem Inv.letC {H':Hp} {s':Shared} {h'':Heap} {σ':St} (I:Inv X pins σ H s) (hC:s.heap.objs.size≤C) (J:Inv X pins σ' H' s') (hn:H' C=none) (hs:Heap.SameBut C s'.heap h''):Inv X pins σ' H' { s' with heap:=h'' }:=by
 refine J.turned (it:=C) (t':=s'.toks) (fun b o hb e=>(hs.2 b hb).trans e) hn (Nat.ne_of_gt (Nat.lt_of_lt_of_le I.lt hC)) (.inr (Nat.le_trans I.sz hC)) (fun x c e=>?_) fun p hp=>?_
 ·obtain ⟨v,z⟩:=I.cell x c e
  exact Nat.ne_of_lt (Nat.lt_of_lt_of_le z.lt hC)
 ·obtain ⟨e,_⟩:=I.pin p hp
  exact Nat.ne_of_lt (Nat.lt_of_lt_of_le (Heap.lt_size e) hC)
end
def tComp (wi:TI) (g:TG) (te:TE) (caps:List (Option Nat)):TE:=fun σ H Q=>wi σ H fun J H1=>∀ acc,H1 acc=none→∃ W:Nat→Nat→List V→Hp→Prop,(∃ m,W 0 m [] (upd H1 acc (.lst [])))∧∀ i m ys H,W i m ys H →
 (J.stop i H∧Q (.ref acc) H)∨(J.go i H∧∃ N:List V→Hp→Prop,(∀ ys' H',N ys' H'→∃ m',m' < m∧W (i+1) m' ys' H')∧∀ x H',J.yld i H x H'→g x (capσ caps σ) H' fun σ2 H2=>Wk (capσ caps σ) σ2∧te σ2 H2 fun y H3=>H3 acc=some (.lst ys)∧ys.length < sizeLine∧N (ys++[y]) (upd H3 acc (.lst (ys++[y]))))
section
variable {X:Cx} {scope:Scope} {N':List Str} {caps:List (Option Nat)} {elt iter tg:Expr} {pos:Pos} {wi:TI} {g:TG} {te:TE}
def CompR (caps:List (Option Nat)) (g:TG) (te:TE) (σ:St) (Q:VK) (J:It) (H1:Hp):Prop:=∀ acc,H1 acc=none→∃ W:Nat→Nat→List V→Hp→Prop,(∃ m,W 0 m [] (upd H1 acc (.lst [])))∧∀ i m ys H,W i m ys H →
 (J.stop i H∧Q (.ref acc) H)∨(J.go i H∧∃ N:List V→Hp→Prop,(∀ ys' H',N ys' H'→∃ m',m' < m∧W (i+1) m' ys' H')∧∀ x H',J.yld i H x H'→g x (capσ caps σ) H' fun σ2 H2=>Wk (capσ caps σ) σ2∧te σ2 H2 fun y H3=>H3 acc=some (.lst ys)∧ys.length < sizeLine∧N (ys++[y]) (upd H3 acc (.lst (ys++[y]))))
theorem comp_core {pins:List (Addr×Obj)} {s:Shared} {σ:St} {H:Hp} {cl:List (Str×Addr)} {Q:VK} {E:Value→Shared→Prop} {RR:Value→Addr→Result→Shared→Prop} {it:Addr} {fp:List Addr} {tn:Nat→Heap→Prop} {J:It} (hc:X.calm=true) (S:BlkScope X.N X.env.scope scope N' caps)
  (hg:∀ cl C s H ex pins,PG (blk X N' scope cl C s H ex pins) tg g) (he:∀ cl C s H ex pins,PE (blk X N' scope cl C s H ex pins) elt te)
  (hcl1:∀ x c,cl.lookup x=some c→X.env.cells.lookup x=some c) (hcl2:∀ x∈scope.names,x.2=.free→∃ c,cl.lookup x.1=some c)
  (I:Inv X pins σ H s) (T:Turn X.prog X.w X.K tg J fp it tn) (st:tn 0 s.heap) (f2:∀ b∈fp,FpOk X pins H b) (R:CompR caps g te σ Q J H)
  (hRR:∀ acc C H' s' m,s.heap.objs.size≤C→s'.heap.Ns C m→Inv X pins σ H' s'→H' C=none→Q (.ref acc) H'→RR (.ref acc) C (.ok .next) s') :
  wpAny (model X.prog X.w) X.A (newList []) (fun acc s₃=>wpAny (model X.prog X.w) X.A (newFunctionEnv scope X.env.globals cl [] X.env.qual none .none (some X.env)) (fun cenv s₄ =>
   codeAny (model X.prog X.w) X.A (.compStart (.ListComp elt [⟨tg,iter,[],0⟩] scope pos) 0 (.ref it) acc { cenv with scope:=relabel scope X.env }) (RR acc cenv.locals) s₄) E s₃) E s:=by
 refine wpAny_newObj_type (wpAny_newFunctionEnv S.nocell (by intro y hy;simp at hy) (fun h₁ hns₁ hsb₁=>?_) S.kind)
 dsimp only at hns₁ hsb₁ ⊢
 generalize hP2:s.heap.push { cls:=.type "list",dict:=none,data:=.seq ([]:List Value).toArray }=P2 at hns₁ hsb₁ ⊢
 have hC:P2.objs.size=s.heap.objs.size+1:=by rw [← hP2,Heap.size_push]
 have hDC:s.heap.objs.size≠P2.objs.size:=by rw [hC];exact Nat.ne_of_lt (Nat.lt_succ_self _)
 have hCle:s.heap.objs.size≤P2.objs.size:=by rw [hC];exact Nat.le_succ _
 have old:∀ b o,s.heap.get? b=some o→h₁.get? b=some o:=fun b o e=>hsb₁.extBut b o (by rw [hC];exact Nat.ne_of_lt (Nat.lt_succ_of_lt (Heap.lt_size e))) (Heap.get?_push_of_some _ (hP2 ▸ Heap.get?_push_of_some _ e))
 have hacc:h₁.get? s.heap.objs.size=some { cls:=.type "list",data:=.seq #[] }:=hsb₁.extBut _ _ hDC (Heap.get?_push_of_some _ (hP2 ▸ Heap.get?_push_size _ rfl))
 have hex:∀ b∈fp,b < s.heap.objs.size:=fun b hb=>by obtain ⟨o,e,_⟩:=T.obj 0 _ st b hb;exact Heap.lt_size e
 obtain ⟨W,⟨m0,w0⟩,turn⟩:=R s.heap.objs.size (I.hok.fresh (Nat.le_refl _))
 have I3:∀ t',Inv (blk X N' scope cl P2.objs.size s H fp pins) [] (capσ caps σ) (upd H s.heap.objs.size (.lst [])) { s with heap:=h₁,toks:=t' }:=fun t'=>blk_inv (t':=t') I S hcl1 hcl2 hCle f2 hex hns₁ old hacc (Nat.le_refl _) hDC
 have stat:∀ {H':Hp},(∀ b∈fp,H' b=none)→∀ b∈fp,FpOk (blk X N' scope cl P2.objs.size s H fp pins) [] H' b:=fun hn b hb=>by
  obtain ⟨_,q1,q2,q3,q4,q5⟩:=f2 b hb
  refine ⟨hn b hb,Nat.ne_of_lt (Nat.lt_of_lt_of_le (hex b hb) hCle),fun z=>?_,.inl hb,fun x c e=>q4 x c (hcl1 x c e),fun p hp=>q5 p ?_⟩
  ·rcases List.mem_cons.mp (I.stkSub b z) with z | z
   ·exact q1 z
   ·exact q2 z
  ·have:p∈(X.pn++pins)++[]:=hp
   simpa using this
 have loop:∀ s₃:Shared,s₃={ s with heap:=h₁,toks:=s.toks+([]:List (Str×Value)).length } →
   codeAny (model X.prog X.w) X.A (.compLoop (.ListComp elt [⟨tg,iter,[],0⟩] scope pos) 0 (.ref it) (.ref s.heap.objs.size) (compEnvC scope cl P2.objs.size X.env)) (RR (.ref s.heap.objs.size) P2.objs.size) s₃:=by
  rintro s₃ rfl
  refine codeAny_compLoop_gen (fun n s'=>∃ i ys H',Inv (blk X N' scope cl P2.objs.size s H fp pins) [] (capσ caps σ) H' s'∧tn i s'.heap∧(∀ b∈fp,H' b=none)∧W i n ys H') ?_ m0
   ⟨0,[],_,I3 _,T.keep 0 _ _ st (fun b _ o e=>old b o e),fun b hb=>by rw [upd_ne (Nat.ne_of_lt (hex b hb))];exact (f2 b hb).1,w0⟩
  rintro n s4 ⟨i,ys,H4,I4,st4,fr4,w4⟩
  rcases turn i n ys H4 w4 with ⟨stop,q⟩ | ⟨go,N,hN,step⟩
  ·refine thn (T.done (blk X N' scope cl P2.objs.size s H fp pins) rfl rfl rfl hc i [] s4 _ H4 _ I4 (stat fr4) st4 stop) fun r s5 ⟨hr,I5⟩=>?_
   subst hr
   obtain ⟨m,hm,_⟩:=id I5.loc
   exact hRR _ _ H4 s5 m hCle hm (blk_back I I5 f2) I5.free q
  ·refine thn (T.item (blk X N' scope cl P2.objs.size s H fp pins) rfl rfl rfl hc i [] s4 _ H4 _ I4 (stat fr4) st4 go) fun r s5 ⟨u,hr,h5⟩=>?_
   subst hr
   refine thn h5 fun _ s6 ⟨x,H6,I6,r6,y6,st6,fr6⟩=>?_
   have I6':=I6.pinned (stat fr6) (T.obj _ _ st6)
   refine thn (hg cl _ s H fp pins _ s6 _ H6 x u _ I6' r6 (step x H6 y6)) fun _ s7 ⟨σ7,H7,I7,wk7,q7⟩=>?_
   refine thn (he cl _ s H fp pins _ s7 σ7 H7 _ I7 q7) fun yv s8 ⟨y,H8,I8,r8,ha8,hsz8,w8⟩=>?_
   refine thn (mt_append (X:=blk X N' scope cl P2.objs.size s H fp pins) _ s8 σ7 H8 (.ref s.heap.objs.size) [y] (.ref s.heap.objs.size) [yv] (fun _ H9=>H9=upd H8 s.heap.objs.size (.lst (ys++[y]))) I8 rfl (.cons r8 .nil) ⟨_,ys,y,rfl,rfl,ha8,hsz8,rfl⟩) fun _ s9 ⟨_,H9,I9,_,e9⟩=>?_
   subst e9
   obtain ⟨m',hm',w8⟩:=hN _ _ w8
   refine ⟨m',hm',i+1,ys++[y],_,I9.unpinned.weak wk7.1 wk7.2,T.keep _ _ _ st6 fun b hb o e=>(I9.pin (b,o) (List.mem_append_right _ (List.mem_append_right _ (mem_pinsAt hb e)))).1,fun b hb=>?_,w8⟩
   obtain ⟨o,e,d⟩:=T.obj _ _ st6 b hb
   exact (I9.pin (b,o) (List.mem_append_right _ (List.mem_append_right _ (mem_pinsAt hb e)))).2.1
 exact codeAny_compStart_list (loop _ rfl) (T.self _ 0 _ _ _ (T.keep 0 _ _ st (fun b _ o e=>old b o e)) (loop _ rfl))
theorem clos_of {pins:List (Addr×Obj)} {s:Shared} {σ:St} {H:Hp} (I:Inv X pins σ H s) (S:BlkScope X.N X.env.scope scope N' caps) :
  ∃ cl,closureFor scope X.env=pure cl∧(∀ x c,cl.lookup x=some c→X.env.cells.lookup x=some c)∧∀ x∈scope.names,x.2=.free→∃ c,cl.lookup x.1=some c :=
 closure_ok fun x hx hf=>I.ok.has x.1 (S.frees x hx hf)
theorem pe_comp {N:List Str} {sc0:Scope} (S:BlkScope N sc0 scope N' caps) (hc:X.calm=true) (hi:PI X tg iter wi)
  (hg:∀ cl C s H ex pins,PG (blk X N' scope cl C s H ex pins) tg g) (he:∀ cl C s H ex pins,PE (blk X N' scope cl C s H ex pins) elt te)
  (hs:∀ x,foldedSetIterable iter X.env x=pure x:=by intro _;rfl) (hN0:X.N=N:=by rfl) (h00:X.env.scope=sc0:=by rfl):PE X (.ListComp elt [⟨tg,iter,[],0⟩] scope pos) (tComp wi g te caps):=by
 subst hN0 h00
 intro pins s σ H Q I h
 obtain ⟨cl,hclos,hcl1,hcl2⟩:=clos_of I S
 rw [eval_ListComp]
 refine wpAny_comprehension_free (use:=none) rfl hs hclos S.kind S.names (thn (hi pins s σ H _ I h) fun xv s1 h1=>thn h1 fun itv s2 h2=>?_)
 obtain ⟨it,fp,tn,J,H2,e,I2,T,st2,f2,R⟩:=h2
 subst e
 refine comp_core (RR:=fun acc C=>compPost (model X.prog X.w) X.A X.xe none (EP X pins σ Q) acc C) hc S hg he hcl1 hcl2 I2 T st2 f2 R ?_
 intro acc C H' s' m hC hm J' hn q
 exact ⟨m,hm,fun h' hs'=>⟨.ref _,H',I2.letC hC J' hn hs',rfl,q⟩⟩
theorem ps_setC {i:Nat} {x:Str} {pos' spos:Pos} {N:List Str} {sc0:Scope} (S:BlkScope N sc0 scope N' caps) (hc:X.calm=true) (hN:X.N.Nodup) (hi':X.N[i]?=some x) (hx:Loc X.env.scope x) (hi:PI X tg iter wi)
  (hg:∀ cl C s H ex pins,PG (blk X N' scope cl C s H ex pins) tg g) (he:∀ cl C s H ex pins,PE (blk X N' scope cl C s H ex pins) elt te)
  (hsw:swapsWith (.ListComp elt [⟨tg,iter,[],0⟩] scope pos) (some (.Name x pos')) spos.line X.env=pure true:=by rfl)
  (hf:X.fn x=true∨X.env.scope.names.lookup x=some .local:=by first | exact .inl rfl | exact .inr rfl | assumption)
  (hs:∀ x,foldedSetIterable iter X.env x=pure x:=by intro _;rfl) (hN0:X.N=N:=by rfl) (h00:X.env.scope=sc0:=by rfl):PS X (.Assign [.Name x pos'] (.ListComp elt [⟨tg,iter,[],0⟩] scope pos) spos) (tAsg (tComp wi g te caps) (gName i)):=by
 subst hN0 h00
 intro pins s σ H D I h
 obtain ⟨cl,hclos,hcl1,hcl2⟩:=clos_of I S
 rw [exec_Assign_Name_used _ _ _ _ hsw]
 refine wpAny_bind (wpAny_standAt (wpAny_bind ?_))
 show wpAny _ X.A (do let _ ← comprehension (.ListComp elt [⟨tg,iter,[],0⟩] scope pos) scope X.env _ (newList []) false (eval iter X.env) (some (assign (.Name x pos') X.env))) _ _ s
 refine wpAny_bind (wpAny_mono (wpAny_comprehension_free (use:=some (assign (.Name x pos') X.env)) (Q:=fun _ s'=>SP X pins D .next s') rfl hs hclos S.kind S.names
  (thn (hi pins s σ H _ I h) fun xv s1 h1=>thn h1 fun itv s2 h2=>?_)) (fun _ s' hq=>wpAny_pure (wpAny_pure hq)) fun _ _ e=>e)
 obtain ⟨it,fp,tn,J,H2,e,I2,T,st2,f2,R⟩:=h2
 subst e
 refine comp_core (Q:=fun x H1=>gName i x σ H1 D.nx) (RR:=fun acc C=>compPost (model X.prog X.w) X.A X.xe (some (assign (.Name x pos') X.env)) (fun _ s'=>SP X pins D .next s') acc C) hc S hg he hcl1 hcl2 I2 T st2 f2 R ?_
 intro acc C H' s' m hC hm J' hn q
 obtain ⟨o,es,ep,ho,hd,hr⟩:=id hm
 have hCL:C≠X.env.locals:=Nat.ne_of_gt (Nat.lt_of_lt_of_le I2.lt hC)
 have JP:Inv X (pins++[(C,o)]) σ H' s':=J'.pins_of fun p hp=>by
  rcases List.mem_append.mp hp with hp | hp
  ·exact J'.pin p (List.mem_append_right _ hp)
  ·have e:=List.mem_singleton.mp hp
   subst e
   exact ⟨ho,hn,hCL,I2.nofs hC,fun v z=>by have z':o.data=.cell v:=z;rw [hd] at z';cases z'⟩
 show wpAny _ X.A (assign (.Name x pos') X.env (.ref acc)) _ _ s'
 refine thn (pg_name hN hi' hx hf (pins++[(C,o)]) s' σ H' (.ref acc) (.ref acc) D.nx JP rfl q) fun _ s'' ⟨σ'',H'',J'',q''⟩=>?_
 have hp:=J''.pin (C,o) (List.mem_append_right _ (List.mem_append_right _ (List.mem_singleton.mpr rfl)))
 exact ⟨m,⟨o,es,ep,hp.1,hd,hr⟩,fun h' hs'=>⟨σ'',H'',I2.letC hC J''.unpinned hp.2.1 hs',q''⟩⟩
end
theorem comp_list {K:PySem.W.Frag} {a:Addr} {xs:List V} {g:TG} {te:TE} {caps:List (Option Nat)} {σ:St} {H:Hp} {Q:VK} (Pv:Addr→Nat→List V→Hp→Prop) (h0:∀ acc,H acc=none→Pv acc 0 [] (upd H acc (.lst [])))
  (hl:∀ acc i ys H',H acc=none→i≤xs.length→Pv acc i ys H'→SqL K H' a xs)
  (hs:∀ acc i x ys H',H acc=none→xs[i]?=some x→Pv acc i ys H'→g x (capσ caps σ) H' fun σ2 H2=>Wk (capσ caps σ) σ2∧te σ2 H2 fun y H3=>H3 acc=some (.lst ys)∧ys.length < sizeLine∧Pv acc (i+1) (ys++[y]) (upd H3 acc (.lst (ys++[y]))))
  (hd:∀ acc ys H',H acc=none→Pv acc xs.length ys H'→Q (.ref acc) H'):CompR caps g te σ Q (Itl K a) H:=by
 intro acc hacc
 refine ⟨fun i m ys H=>m=xs.length - i∧i≤xs.length∧Pv acc i ys H,⟨xs.length,by simp,Nat.zero_le _,h0 acc hacc⟩,?_⟩
 rintro i m ys H' ⟨rfl,hi,p⟩
 have q:=hl acc i ys H' hacc hi p
 by_cases hlt:i < xs.length
 ·refine .inr ⟨⟨xs,xs[i],q,by simp [hlt]⟩,Pv acc (i+1),fun ys' H' p'=>⟨xs.length - (i+1),by omega,rfl,hlt,p'⟩,fun x H'' y=>?_⟩
  obtain ⟨e,y⟩:=y
  subst e
  exact hs acc i x ys _ hacc (y xs q) p
 ·have e:i=xs.length:=by omega
  subst e
  exact .inl ⟨⟨xs,q,Nat.le_refl _⟩,hd acc ys H' hacc p⟩
theorem comp_range {lo:Int} {n:Nat} {g:TG} {te:TE} {caps:List (Option Nat)} {σ:St} {H:Hp} {Q:VK} (Pv:Addr→Nat→List V→Hp→Prop) (h0:∀ acc,H acc=none→Pv acc 0 [] (upd H acc (.lst [])))
  (hs:∀ acc i ys H',H acc=none→i < n→Pv acc i ys H'→g (.int (lo+i)) (capσ caps σ) H' fun σ2 H2=>Wk (capσ caps σ) σ2∧te σ2 H2 fun y H3=>H3 acc=some (.lst ys)∧ys.length < sizeLine∧Pv acc (i+1) (ys++[y]) (upd H3 acc (.lst (ys++[y]))))
  (hd:∀ acc ys H',H acc=none→Pv acc n ys H'→Q (.ref acc) H'):CompR caps g te σ Q (Itr lo n) H:=by
 intro acc hacc
 refine ⟨fun i m ys H=>m=n - i∧i≤n∧Pv acc i ys H,⟨n,by simp,Nat.zero_le _,h0 acc hacc⟩,?_⟩
 rintro i m ys H' ⟨rfl,hi,p⟩
 by_cases hlt:i < n
 ·refine .inr ⟨hlt,Pv acc (i+1),fun ys' H' p'=>⟨n - (i+1),by omega,rfl,hlt,p'⟩,fun x H'' y=>?_⟩
  obtain ⟨e,y⟩:=y
  subst e y
  exact hs acc i ys _ hacc hlt p
 ·have e:i=n:=by omega
  subst e
  exact .inl ⟨Nat.le_refl _,hd acc ys H' hacc p⟩
def cvV:V→Option Value
 | .ty n=>some (.type n)
 | .ref a=>some (.ref a)
 | _=>none
section
variable {X:Cx}
end
mutual
inductive Dt (K:PySem.W.Frag) (H:Hp):V→PyData→Prop where
 | non:Dt K H .non .none
 | bl (b:Bool):Dt K H (.bl b) (.bool b)
 | int (i:Int):Dt K H (.int i) (.int i)
 | str (x:Str):Dt K H (.str x) (.str x)
 | lst {a:Addr} {xs:List V} {ds:List PyData}:SqL K H a xs→Dts K H xs ds→Dt K H (.ref a) (.list ds)
 | tup {a:Addr} {xs:List V} {ds:List PyData}:SqT K H a xs→Dts K H xs ds→Dt K H (.ref a) (.tuple ds)
inductive Dts (K:PySem.W.Frag) (H:Hp):List V→List PyData→Prop where
 | nil:Dts K H [] []
 | cons {x:V} {xs:List V} {d:PyData} {ds:List PyData}:Dt K H x d→Dts K H xs ds→Dts K H (x :: xs) (d :: ds)
end
section
variable {X:Cx} {pins:List (Addr×Obj)} {σ:St} {H:Hp} {s:Shared}
mutual
theorem Dt.reads (I:Inv X pins σ H s):∀ {x:V} {d:PyData} {u:Value},Dt X.K H x d→RelV x u→∃ as,Reads s.heap u d as
 | _,_,_,.non,r=>by cases r;exact ⟨_,.none⟩
 | _,_,_,.bl b,r=>by cases r;exact ⟨_,.bool b⟩
 | _,_,_,.int i,r=>by obtain ⟨t,rfl⟩:=r;exact ⟨_,.int i t⟩
 | _,_,_,.str x,r=>by obtain ⟨t,rfl⟩:=r;exact ⟨_,.str x t⟩
 | _,_,_,.lst h hs,r=>by
  cases r
  obtain ⟨its,rv,p,_⟩:=I.list h
  obtain ⟨as,q⟩:=Dts.reads I hs rv
  obtain ⟨o,ho,hc,n,hd⟩:=p.isList
  exact ⟨_,.list ho hc hd (by simpa using q)⟩
 | _,_,_,.tup h hs,r=>by
  cases r
  obtain ⟨its,rv,p,_⟩:=I.tuple h
  obtain ⟨as,q⟩:=Dts.reads I hs rv
  obtain ⟨o,ho,hc,n,hd⟩:=p
  exact ⟨_,.tuple ho hc hd (by simpa using q)⟩
theorem Dts.reads (I:Inv X pins σ H s):∀ {xs:List V} {ds:List PyData} {us:List Value},Dts X.K H xs ds→Vals xs us→∃ as,ReadsAll s.heap us ds as
 | _,_,_,.nil,r=>by cases r;exact ⟨_,.nil⟩
 | _,_,_,.cons h hs,r=>by
  cases r with
  | cons r rr =>
   obtain ⟨as,q⟩:=Dt.reads I h r
   obtain ⟨bs,q'⟩:=Dts.reads I hs rr
   exact ⟨_,.cons q q'⟩
end
end
section
variable {X:Cx}
theorem op_neD (hu:X.A.units+64 < cLine):OpR X (compareOp .NotEq) (fun x y H Q=>∃ d e,Dt X.K H x d∧Dt X.K H y e∧SeqAt.shaped d=true∧SeqAt.shaped e=true∧Q (.bl (!PyData.eqv d e)) H):=by
 intro pins s σ H x y v u Q I rx ry h
 obtain ⟨d,e,hd,he,sd,se,q⟩:=h
 obtain ⟨as,r1⟩:=hd.reads I rx
 obtain ⟨bs,r2⟩:=he.reads I ry
 exact ne_dataH r1 r2 sd se hu ⟨.bl _,H,I,rfl,q⟩
end
end L2
namespace L2
open PySem PySem.Spec PyProof.Rows
section
variable {t u:TS} {te ta tb tc:TE} {tt uu:TT} {tar:TA} {g:TG} {D:Ends} {σ:St} {H:Hp} {Q:VK} {QB:Bool→Hp→Prop} {QL:List V→Hp→Prop} {QS:St→Hp→Prop} {v x y:V} {i j:Int} {n:Nat} {K:PySem.W.Frag}
theorem r_seq (h:t { D with nx:=u D } σ H):tSeq t u D σ H:=h
theorem r_next (h:D.nx σ H):tNext D σ H:=h
theorem r_nx {f b c:St→Hp→Prop} {r:VK} (h:f σ H):Ends.nx ⟨f,r,b,c⟩ σ H:=h
theorem r_rt {f b c:St→Hp→Prop} {r:VK} (h:r v H):Ends.rt ⟨f,r,b,c⟩ v H:=h
theorem r_asg (h:te σ H fun x H1=>g x σ H1 D.nx):tAsg te g D σ H:=h
theorem r_gname (h:QS (σ.set n (some v)) H):gName n v σ H QS:=h
theorem r_drop (h:te σ H fun _ H1=>D.nx σ H1):tDrop te D σ H:=h
theorem r_ret (h:te σ H D.rt):tRet te D σ H:=h
theorem r_ifs (h:tt σ H fun b H1=>if b=true then t D σ H1 else u D σ H1):tIfS tt t u D σ H:=h
theorem r_var (e:σ[n]?=some (some v)) (h:Q v H):tVar n σ H Q:=⟨v,e,h⟩
theorem r_C (h:Q v H):tC v σ H Q:=h
theorem r_op {r:R2} (h:ta σ H fun x H1=>tb σ H1 fun y H2=>r x y H2 Q):tOp r ta tb σ H Q:=h
theorem r_un {r:V→Hp→VK→Prop} (h:ta σ H fun x H1=>r x H1 Q):tUn r ta σ H Q:=h
theorem r_test (h:te σ H fun x H'=>∃ k,x=.bl k∧QB k H'):tTest te σ H QB:=h
theorem r_tB (h:te σ H fun x H'=>∃ k,x=.bl k∧QB k H'):tB te σ H QB:=h
theorem r_bl {k:Bool} {Q:Bool→Prop} (h:Q k):∃ k',V.bl k=.bl k'∧Q k':=⟨k,rfl,h⟩
theorem r_and (h:tt σ H fun c H1=>if c=true then uu σ H1 QB else QB false H1):tAnd tt uu σ H QB:=h
theorem r_or (h:tt σ H fun c H1=>if c=true then QB true H1 else uu σ H1 QB):tOr tt uu σ H QB:=h
theorem r_not (h:tt σ H fun c H1=>QB (!c) H1):tNot tt σ H QB:=h
theorem r_andV (h:ta σ H fun x H1=>∃ c,x=.bl c∧if c=true then tb σ H1 Q else Q (.bl false) H1):tAndV ta tb σ H Q:=h
theorem r_notV (h:ta σ H fun x H1=>∃ c,x=.bl c∧Q (.bl (!c)) H1):tNotV ta σ H Q:=h
theorem r_chain {r r':R2} (h:ta σ H fun x H1=>tb σ H1 fun y H2=>r x y H2 fun z H3=>∃ k,z=.bl k∧(if k=true then tc σ H3 fun w' H4=>r' y w' H4 Q else Q (.bl false) H3)):tChain r r' ta tb tc σ H Q:=h
theorem r_call {sp:Sp} {dvs:List V} {E:XK} (h:tar σ H fun vs H1=>sp (vs++dvs) H1 Q E):tCall sp dvs E tar σ H Q:=h
theorem r_cb {r:List V→Hp→VK→Prop} (h:tar σ H fun vs H1=>r vs H1 Q):tCB r tar σ H Q:=h
theorem r_cons (h:ta σ H fun x H1=>tar σ H1 fun xs H2=>QL (x :: xs) H2):tCons ta tar σ H QL:=h
theorem r_nil (h:QL [] H):tNil σ H QL:=h
theorem r_lst (h:tar σ H fun xs H1=>xs.length≤sizeLine∧∀ p,H1 p=none→Q (.ref p) (upd H1 p (.lst xs))):tLst tar σ H Q:=h
theorem r_tup (h:tar σ H fun xs H1=>xs.length≤sizeLine∧∀ p,H1 p=none→Q (.ref p) (upd H1 p (.tup xs))):tTup tar σ H Q:=h
theorem r_I0 {f:Int→Int→V} (h:Q (f i j) H):rI0 f (.int i) (.int j) H Q:=⟨i,j,rfl,rfl,h⟩
theorem r_I {C:Int→Int→Prop} {f:Int→Int→V} (hc:C i j) (h:Q (f i j) H):rI C f (.int i) (.int j) H Q:=⟨i,j,rfl,rfl,hc,h⟩
theorem r_U {f:Int→V} (h:Q (f i) H):rU f (.int i) H Q:=⟨i,rfl,h⟩
theorem r_eq (hs:scal x y=true) (h:Q (.bl (decide (x=y))) H):rEq x y H Q:=⟨hs,h⟩
theorem r_ne (hs:scal x y=true) (h:Q (.bl (!decide (x=y))) H):rNe x y H Q:=⟨hs,h⟩
theorem r_ixL {p:Addr} {xs:List V} (hs:SqL K H p xs) (ha:atI xs i=some v) (h:Q v H):rIxL K (.ref p) (.int i) H Q:=⟨p,xs,i,v,rfl,rfl,hs,ha,h⟩
theorem r_bm {T:String} {r:V→List V→Hp→VK→Prop} {to:TE} (h:to σ H fun x H1=>tyV K T x H1∧tar σ H1 fun xs H2=>r x xs H2 Q):tBM K T r to tar σ H Q:=h
theorem r_fld {a:Addr} {f:Str} (h:ta σ H fun x H1=>∃ a C dx fs v,x=.ref a∧H1 a=some (.ins C dx fs)∧Cls K C∧NoAttr K C f∧fs.lookup f=some v∧Q v H1):tFld K ta f σ H Q:=h
theorem r_ite {A B:Prop} {c:Bool} (h1:c=true→A) (h2:c=false→B):if c=true then A else B:=by
 cases c with
 | true=>exact h1 rfl
 | false=>exact h2 rfl
theorem r_iteP {A B:Prop} {c:Bool} (hc:c=true) (h1:A):if c=true then A else B:=by rw [if_pos hc];exact h1
theorem r_iteN {A B:Prop} {c:Bool} (hc:c=false) (h1:B):if c=true then A else B:=by rw [if_neg (by rw [hc];decide)];exact h1
theorem Same.upd_new {H:Hp} {p:Addr} {o:HO} (h:H p=none):Same H (upd H p o):=fun b u e=>by rw [upd_ne (ne_of_none e h)];exact e
theorem sqL_same {K:PySem.W.Frag} {H H':Hp} {a:Addr} {xs:List V} (e:Same H H') (h:SqL K H a xs):SqL K H' a xs:=e.seq h
theorem atI_get' {α:Type} {xs:List α} {i:Int} {v:α} (h0:0≤i) (h:xs[i.toNat]?=some v):atI xs i=some v:=by
 have:=atI_nat (xs:=xs) (j:=i.toNat) h
 rwa [Int.toNat_of_nonneg h0] at this
end
end L2
namespace L2
open PySem PySem.Spec PyProof.Rows
section
variable {wi:TI} {g:TG} {tb:TS} {te tl:TE} {ta:TA} {D:Ends} {σ:St} {H:Hp} {Q:VK} {R:It→Hp→Prop} {caps:List (Option Nat)} {K:PySem.W.Frag}
theorem r_for (h:wi σ H fun J H1=>∃ W:Nat→Nat→St→Hp→Prop,(∃ m,W 0 m σ H1)∧∀ i m σ H,W i m σ H →
  (J.stop i H∧D.nx σ H)∨(J.go i H∧∃ N:St→Hp→Prop,(∀ σ' H',N σ' H'→∃ m',m' < m∧W (i+1) m' σ' H')∧∀ x H',J.yld i H x H'→g x σ H' fun σ2 H2=>tb { D with nx:=N,ct:=N,bk:=D.nx } σ2 H2)):tFor wi g tb D σ H:=h
theorem r_rng1 (h:ta σ H fun vs H1=>∃ j:Int,vs=[.int j]∧-(2 ^ 62)≤j∧j < 2 ^ 62∧R (Itr 0 j.toNat) H1):iRng1 ta σ H R:=h
theorem r_rng2 (h:ta σ H fun vs H1=>∃ i j:Int,vs=[.int i,.int j]∧(-(2 ^ 62)≤i∧i < 2 ^ 62∧-(2 ^ 62)≤j∧j < 2 ^ 62)∧R (Itr i (j - i).toNat) H1):iRng2 ta σ H R:=h
theorem r_ilist (h:tl σ H fun x H1=>∃ a,x=.ref a∧(∃ xs,SqL K H1 a xs)∧R (Itl K a) H1):iList K tl σ H R:=h
theorem r_ienum (h:ta σ H fun vs H1=>∃ a,vs=[.ref a]∧(∃ xs,SqL K H1 a xs)∧R (Ite K a) H1):iEnum K ta σ H R:=h
theorem r_comp (h:wi σ H fun J H1=>CompR caps g te σ Q J H1):tComp wi g te caps σ H Q:=h
theorem r_meth {C:Addr} {m:Str} {sp:Sp} {dvs:List V} {E:XK} {to:TE} (h:to σ H fun x H1=>∃ a dx fs,x=.ref a∧H1 a=some (.ins C dx fs)∧fs.lookup m=none∧ta σ H1 fun vs H2=>sp (x :: (vs++dvs)) H2 Q E):tMeth C m sp dvs E to ta σ H Q:=h
theorem r_make {C:Addr} {sp:Sp} {dvs:List V} {E:XK} (h:ta σ H fun vs H1=>∀ x dx,H1 x=none→H1 dx=none→dx≠x →
 sp (.ref x :: (vs++dvs)) (upd (upd H1 dx (.own x)) x (.ins C dx [])) (fun v H2=>v=.non∧Q (.ref x) H2) E):tMake C sp dvs E ta σ H Q:=h
theorem r_sfld {tv to:TE} {f:Str} (h:tv σ H fun y H1=>to σ H1 fun x H2=>∃ a C dx fs,x=.ref a∧H2 a=some (.ins C dx fs)∧Cls K C∧NoAttr K C f∧fs.length < 1000 ∧
 D.nx σ (upd H2 a (.ins C dx (putF f y fs)))):sFld K to tv f D σ H:=h
end
end L2
namespace L2
open PySem PySem.Spec PyProof.Rows
section
variable {X:Cx} (K:PySem.W.Frag)
theorem call_len_seqK (hK:X.K=K:=by rfl):CallR X (.builtin "len") (fun xs H Q=>∃ p ys,xs=[.ref p]∧(SqL K H p ys∨SqT K H p ys)∧Q (.int ys.length) H):=by subst hK;exact call_len_seq
theorem call_list_ofK (hK:X.K=K:=by rfl):CallR X (.type "list") (fun xs H Q=>∃ p ys,xs=[.ref p]∧(SqL K H p ys∨SqT K H p ys)∧∀ l,H l=none→Q (.ref l) (upd H l (.lst ys))):=by subst hK;exact call_list_of
theorem call_tuple_ofK (hK:X.K=K:=by rfl):CallR X (.type "tuple") (fun xs H Q=>∃ p ys,xs=[.ref p]∧((SqL K H p ys∧∀ l,H l=none→Q (.ref l) (upd H l (.tup ys)))∨(SqT K H p ys∧Q (.ref p) H))):=by subst hK;exact call_tuple_of
theorem ix_listK (hK:X.K=K:=by rfl):IxR X (rIxL K):=by subst hK;exact ix_list
theorem pe_fldK {e:Expr} {f:Str} {pos:Pos} {ta:TE} (he:PE X e ta) (hb:attributeBase e f X.env (eval e X.env)=eval e X.env) (hK:X.K=K:=by rfl):PE X (.Attribute e f pos) (tFld K ta f):=by subst hK;exact pe_fld he hb
theorem ps_fldK {o value:Expr} {f:Str} {pos pos':Pos} {ta tv:TE} (ha:PE X o ta) (hv:PE X value tv) (hs:swapsWith value (some (.Attribute o f pos')) pos.line X.env=pure false) (hK:X.K=K:=by rfl):PS X (.Assign [.Attribute o f pos'] value pos) (sFld K ta tv f):=by subst hK;exact ps_fld ha hv hs
theorem pe_bmK {o e:Expr} {es:List Expr} {to:TE} {t:TA} {name:Str} {apos cpos:Pos} {T id:String} {r:V→List V→Hp→VK→Prop} (pa:PlainAttrs T) (slot:Slot T name id) (hty:typeOf (.builtin id)=pure (.type "method_descriptor")) (hm:MtR X id r) (ho:PE X o to) (ha:PA X (e :: es) t)
  (hbase:attributeBase o name X.env (eval o X.env)=eval o X.env:=by rfl) (hfew:((backTo cpos (starEach (e :: es) X.env)).all (fun x=>!x.1) && (backToKw cpos (keywordEach [] X.env)).all (fun x=>x.1.isSome)
   && decide ((e :: es).length+([]:List Keyword).length+(if ([]:List Keyword).isEmpty then 0 else 1) < 30))=true:=by rfl)
  (hline:(apos.endLine == cpos.line)=true:=by rfl) (hs:starEach (e :: es) X.env=(false,eval e X.env) :: starEach es X.env:=by rfl) (hplain:(backTo cpos (starEach es X.env)).any (·.1)=false:=by rfl) (hK:X.K=K:=by rfl) :
  PE X (.Call (.Attribute o name apos) (e :: es) [] cpos) (tBM K T r to t):=by subst hK;exact pe_bm pa slot hty hm ho ha hbase hfew hline hs hplain
theorem pi_listK {tg l:Expr} {tl:TE} (hl:PE X l tl) (hK:X.K=K:=by rfl):PI X tg l (iList K tl):=by subst hK;exact pi_list hl
theorem pi_enumK {es:List Expr} {kk:Nat} {p0:Pos} {l:Expr} {ta:TA} {p pos:Pos} (hg:Gl X "enumerate") (hm:X.mg "enumerate"=none) (ha:PA X [l] ta) (hs:starEach [l] X.env=[(false,eval l X.env)]:=by rfl) (hK:X.K=K:=by rfl):PI X (.Tuple es kk p0) (.Call (.Name "enumerate" p) [l] [] pos) (iEnum K ta):=by subst hK;exact pi_enum hg hm ha hs
theorem pg_tupK {pos:Pos} {es:List Expr} {k:Nat} {t:TGs} {n:Nat} (hc:X.calm=true) (h:PGs X es t) (hn:(assignEach es X.env).length=n:=by rfl) (hst:(assignEach es X.env).findIdx? (·.1)=none:=by rfl) (hK:X.K=K:=by rfl):PG X (.Tuple es k pos) (gTup K n t):=by subst hK;exact pg_tup hc h hn hst
theorem op_neDK (hu:X.A.units+64 < cLine) (hK:X.K=K:=by rfl):OpR X (compareOp .NotEq) (fun x y H Q=>∃ d e,Dt K H x d∧Dt K H y e∧SeqAt.shaped d=true∧SeqAt.shaped e=true∧Q (.bl (!PyData.eqv d e)) H):=by subst hK;exact op_neD hu
end
end L2
namespace L2
open PySem PySem.Spec PyProof.Rows
def tJoin (t:TS):TS:=fun D σ H=>∃ P:St→Hp→Prop,t { D with nx:=P } σ H∧∀ σ' H',P σ' H'→D.nx σ' H'
theorem ps_join {X:Cx} {st:Stmt} {t:TS} (h:PS X st t):PS X st (tJoin t):=by
 intro pins s σ H D I hw
 obtain ⟨P,h1,h2⟩:=hw
 refine thn (h pins s σ H _ I h1) fun f s' q=>?_
 cases f with
 | next=>obtain ⟨σ',H',I',q⟩:=q;exact ⟨σ',H',I',h2 σ' H' q⟩
 | brk=>exact q
 | cont=>exact q
 | ret v=>exact q
theorem r_join {t:TS} {D:Ends} {σ:St} {H:Hp} (P:St→Hp→Prop) (h1:t { D with nx:=P } σ H) (h2:∀ σ' H',P σ' H'→D.nx σ' H'):tJoin t D σ H:=⟨P,h1,h2⟩
end L2
namespace My
open PySem L2
def cellv (ns:List Int) (k:Int):Int:=if k < ns.length then ns.getD k.toNat 0 else 0
def stir1 (c k:Int):Int:=(c % 2147483647+977 * k+1) * 48271 % 2147483647
def stir2 (s k:Int):Int:=(s+40692 * (k+3)) * 69621 % 2147483629
def draw (c k b:Int):Int:=stir2 (stir1 c k) k / 8 % b
theorem draw_nn (c k:Int) {b:Int} (h:0 < b):0≤draw c k b:=Int.emod_nonneg _ (by omega)
theorem draw_lt (c k:Int) {b:Int} (h:0 < b):draw c k b < b:=Int.emod_lt_of_pos _ h
def rowBy (c:Int) (d r:Int) (k:Nat):List Int:=(List.range d.toNat).map fun (j:Nat)=>draw c (7 * (k:Int)+(j:Int)) r
def waysBy (c d r:Int):List (List Int):=(List.range r.toNat).map (rowBy c d r)
def lampsBy (c r:Int):List Bool:=(List.range r.toNat).map fun (k:Nat)=>decide (draw c (k:Int) 2=1)
def wordBy (c d n:Int):List Int:=(List.range n.toNat).map fun (k:Nat)=>draw c (k:Int) d
def step (rss:List (List Int)) (q d:Int):Int:=(rss.getD q.toNat []).getD d.toNat 0
def walkI (rss:List (List Int)) (q:Int) (w:List Int):Int:=w.foldl (step rss) q
def trailI (rss:List (List Int)) (w:List Int):List Int:=(List.range (w.length+1)).map fun j=>walkI rss 0 (w.take j)
structure Ways (d:Int) (rss:List (List Int)):Prop where
 row:∀ row∈rss,(row.length:Int)=d∧∀ x∈row,0≤x∧x < rss.length
structure Valid (d:Int) (rss:List (List Int)) (ls:List Bool):Prop extends Ways d rss where
 d1:1≤d
 d6:d≤6
 r1:1≤rss.length
 r400:rss.length≤400
 ll:ls.length=rss.length
def WordOk (d:Int) (w:List Int):Prop:=∀ x∈w,0≤x∧x < d
theorem step_in {d:Int} {rss:List (List Int)} (W:Ways d rss) {q x:Int} (h0:0≤q) (h1:q < rss.length) (x0:0≤x) (x1:x < d) :
  ∃ row,rss[q.toNat]?=some row∧row[x.toNat]?=some (step rss q x)∧0≤step rss q x∧step rss q x < rss.length:=by
 have hq:q.toNat < rss.length:=by omega
 obtain ⟨hl,hr⟩:=W.row rss[q.toNat] (List.getElem_mem hq)
 have hx:x.toNat < rss[q.toNat].length:=by omega
 have e:step rss q x=rss[q.toNat][x.toNat]:=by
  unfold step
  have e1:rss.getD q.toNat []=rss[q.toNat]:=by rw [List.getD_eq_getElem?_getD,List.getElem?_eq_getElem hq,Option.getD_some]
  rw [e1,List.getD_eq_getElem?_getD,List.getElem?_eq_getElem hx,Option.getD_some]
 obtain ⟨a,b⟩:=hr _ (List.getElem_mem hx)
 exact ⟨rss[q.toNat],List.getElem?_eq_getElem hq,by rw [e];exact List.getElem?_eq_getElem hx,by rw [e];exact a,by rw [e];exact b⟩
theorem walkI_in {d:Int} {rss:List (List Int)} (W:Ways d rss):∀ {w:List Int} {q:Int},WordOk d w→0≤q→q < rss.length→0≤walkI rss q w∧walkI rss q w < rss.length
 | [],q,_,h0,h1=>⟨h0,h1⟩
 | x :: w,q,hw,h0,h1=>by
  obtain ⟨x0,x1⟩:=hw x List.mem_cons_self
  obtain ⟨_,_,_,a,b⟩:=step_in W h0 h1 x0 x1
  exact walkI_in W (w:=w) (q:=step rss q x) (fun y hy=>hw y (List.mem_cons_of_mem _ hy)) a b
theorem walkI_snoc (rss:List (List Int)) (q:Int) (w:List Int) (x:Int):walkI rss q (w++[x])=step rss (walkI rss q w) x:=by
 unfold walkI;rw [List.foldl_append];rfl
theorem take_snoc {w:List Int} {i:Nat} {x:Int} (h:w[i]?=some x):w.take (i+1)=w.take i++[x]:=by
 rw [List.take_add_one,h];rfl
theorem WordOk.take {d:Int} {w:List Int} (h:WordOk d w) (i:Nat):WordOk d (w.take i):=fun x hx=>h x (List.mem_of_mem_take hx)
theorem waysBy_len (c d r:Int):(waysBy c d r).length=r.toNat:=by simp [waysBy]
theorem waysBy_ok (c:Int) {d r:Int} (hd:0≤d) (hr:0 < r):Ways d (waysBy c d r):=by
 refine ⟨fun row hrow=>?_⟩
 unfold waysBy at hrow
 obtain ⟨k,hk,rfl⟩:=List.mem_map.mp hrow
 refine ⟨?_,fun x hx=>?_⟩
 ·simp [rowBy];omega
 ·unfold rowBy at hx
  obtain ⟨j,hj,rfl⟩:=List.mem_map.mp hx
  have h1:=draw_nn c (7 * (k:Int)+(j:Int)) hr
  have h2:=draw_lt c (7 * (k:Int)+(j:Int)) hr
  rw [waysBy_len]
  exact ⟨h1,by omega⟩
theorem lampsBy_len (c r:Int):(lampsBy c r).length=r.toNat:=by simp [lampsBy]
theorem wordBy_len (c d n:Int):(wordBy c d n).length=n.toNat:=by simp [wordBy]
theorem wordBy_ok (c:Int) {d:Int} (n:Int) (hd:0 < d):WordOk d (wordBy c d n):=fun x hx=>by
 unfold wordBy at hx
 obtain ⟨k,hk,rfl⟩:=List.mem_map.mp hx
 exact ⟨draw_nn _ _ hd,draw_lt _ _ hd⟩
theorem map_range_snoc {α:Type} (f:Nat→α) (i:Nat):(List.range (i+1)).map f=(List.range i).map f++[f i]:=by
 rw [List.range_succ,List.map_append];rfl
end My
namespace L2
open PySem PySem.Spec PyProof.Rows
theorem ObjOk.ex {P:Program} {w:World} {H:Hp} {h:Heap} {a:Addr} {o:HO} (x:ObjOk P w H h a o):∃ ob,h.get? a=some ob:=by
 cases o with
 | lst xs=>obtain ⟨_,_,_,_,e⟩:=x;exact ⟨_,e⟩
 | tup xs=>obtain ⟨_,_,_,ob,e,_⟩:=x;exact ⟨_,e⟩
 | dK kvs=>obtain ⟨_,_,_,_,o,_,_,e,_⟩:=x;exact ⟨_,e⟩
 | dT kvs=>obtain ⟨_,_,_,_,o,_,_,e,_⟩:=x;exact ⟨_,e⟩
 | set S n=>obtain ⟨o,_,_,_,e,_⟩:=x;exact ⟨_,e⟩
 | ins C dx fs=>obtain ⟨_,_,_,e,_⟩:=x;exact ⟨_,e⟩
 | own y=>exact x
 | xd fs=>obtain ⟨_,⟨_,_,_,e,_⟩,_⟩:=x;exact ⟨_,e⟩
 | rng lo hi=>obtain ⟨_,_,_,e⟩:=x;exact ⟨_,e⟩
 | frz ob u=>obtain ⟨e,_⟩:=x;exact ⟨_,e⟩
 | tbl ps=>exact ⟨_,x⟩
 | met f y=>exact ⟨_,x⟩
 | ext φ=>exact x.2.1
def CXr (P:Program) (w:World):CXT:=fun outer H s E e s'=>∃ (ea:Addr) (cls a0:Value) (B:Heap) (H':Hp),e=.ref ea∧s'.os=s.os∧AllBare s'.gens∧Un (frs outer) [] H H' s.heap s'.heap∧HOk P w H' s'.heap ∧
 Heap.FlyingW B outer ea cls a0 s'.heap∧(∀ b o,s.heap.get? b=some o→b∉frs outer→∃ o',B.get? b=some o')∧(∀ b u,H' b=some u→∃ o',B.get? b=some o')∧E cls none H'
structure Xp (X:Cx) (E:XK):Prop where
 pass:Passes (CXr X.prog X.w) X E
 own:PassesOwn (model X.prog X.w) X.A X.env X.xe
def Xm (X:Cx) (E:XK):Prop:=∀ (pins:List (Addr×Obj)) (σ:St) (H:Hp) (s:Shared) (h':Heap) (e:Addr) (cls:Value) (args:List Value),Inv X pins σ H s→Heap.MadeExcOf s.heap h' e cls args→E cls none H→X.xe (.ref e) { s with heap:=h' }
theorem leave_un {X:Cx} {pins:List (Addr×Obj)} {σ:St} {H:Hp} {s1:Shared} (I:Inv X pins σ H s1) (he:X.ex=[]) {B h':Heap} (b1:B.StaysIn s1.heap) (b2:B.StaysIn h')
  (sm:∀ b o,s1.heap.get? b=some o→b∈X.fs→∃ sl,h'.get? b=some { o with slots:=sl }) (d1:∀ b o,X.s₀.heap.get? b=some o→b∉X.fs→∃ o',B.get? b=some o') (d2:∀ b u,H b=some u→∃ o',B.get? b=some o') :
  Un X.fs [] X.H₀ H X.s₀.heap h'∧HOk X.prog X.w H h':=by
 have same:∀ b o,s1.heap.get? b=some o→(∃ o',B.get? b=some o')→h'.get? b=some o:=fun b o e ⟨o',e'⟩=>by
  have z:=b1 b o' e'
  rw [e] at z;cases z
  exact b2 b o e'
 have nx:∀ b,b∉X.ex:=fun b z=>by rw [he] at z;cases z
 refine ⟨⟨fun b o q n hb _=>same b o (I.base.keep b o q n hb (nx b)) (d1 b o q hb),fun b o q n hb _=>?_,fun b o q n _=>I.base.free b o q n (nx b),fun b o q _=>?_,I.base.tups,I.base.frzs,I.base.tbls⟩,fun b u e=>?_⟩
 ·obtain ⟨sl,e1⟩:=I.base.slot b o q n hb (nx b)
  obtain ⟨sl',e2⟩:=sm b _ e1 hb
  exact ⟨sl',e2⟩
 ·obtain ⟨o1,e1⟩:=I.base.there b o q (nx b)
  by_cases hb:b∈X.fs
  ·obtain ⟨sl,e2⟩:=sm b o1 e1 hb
   exact ⟨_,e2⟩
  ·exact ⟨_,same b o1 e1 (d1 b o q hb)⟩
 ·refine (I.hok b u e).stay (fun c v hc q=>same c v q ?_) (fun _ q=>q) fun _ _ q=>q
  rcases hc with z | z
  ·rw [z];exact d2 b u e
  ·exact d2 c _ z
theorem Inv.offStack {X:Cx} {pins:List (Addr×Obj)} {σ:St} {H:Hp} {s:Shared} (I:Inv X pins σ H s) {b:Addr} {o:Obj} (q:X.s₀.heap.get? b=some o) (hb:b∉X.fs):b∉frs X.stack:=fun z=>by
 rcases List.mem_cons.mp (I.stkSub b z) with z | z
 ·rw [z] at q
  exact absurd (Nat.lt_of_lt_of_le (Heap.lt_size q) I.ok.above) (Nat.lt_irrefl _)
 ·exact hb z
theorem Inv.nonrec {X:Cx} {pins:List (Addr×Obj)} {σ:St} {H:Hp} {s:Shared} (I:Inv X pins σ H s) {b:Addr} {o:Obj} (q:s.heap.get? b=some o) (hb:b∈X.fs):∀ vs,o.data≠.fields vs:=by
 obtain ⟨_,o',e,hd⟩:=I.funs.mem hb
 rw [q] at e;cases e;exact hd
section
variable {P:Program} {w:World} {K:PySem.W.Frag} {mg:Str→Option Value} {base:Heap} {N:List Str} {qual:Str} {scope:Scope} {f:Addr} {cd:Value} {A:Around} {outer:List Env} {s:Shared} {H:Hp} {E:XK}
theorem xp_def:Xp (cxOf (CXr P w) P w K mg base N qual scope f cd A outer s H E) E where
 own:=PassesOwn.leaving
 pass:=by
  intro pins σ H1 s1 e s' I h
  obtain ⟨ea,cls,a0,B,H',rfl,ho,hg,u,hok,fl,dm,tr,hE⟩:=h
  have I':=I.call' ho u hok hg (fun b hb=>by cases hb)
  refine wpAny_leaves_onW I.ok.frames rfl fl fun h' fl' sm=>?_
  obtain ⟨un,hk⟩:=leave_un I' rfl fl.1 fl'.1 (fun b o q hb=>sm b o q (I'.nonrec q hb)) (fun b o q hb=>by
   obtain ⟨o1,e1⟩:=I.base.there b o q (fun z=>by cases z)
   exact dm b o1 e1 (I.offStack q hb)) tr
  exact ⟨ea,cls,a0,B,H',rfl,I'.os,hg,un,hk,fl',fun b o q hb=>by
   obtain ⟨o1,e1⟩:=I.base.there b o q (fun z=>by cases z)
   exact dm b o1 e1 (I.offStack q hb),tr,hE⟩
theorem xm_def:Xm (cxOf (CXr P w) P w K mg base N qual scope f cd A outer s H E) E:=by
 intro pins σ H1 s1 h' e cls args I mx hE
 have hkb:(PySem.W.hideAll s1.heap (frs (cxOf (CXr P w) P w K mg base N qual scope f cd A outer s H E).stack)).StaysIn s1.heap:=fun b o q=>PySem.W.of_hideAll _ q
 have dm:∀ b o,(cxOf (CXr P w) P w K mg base N qual scope f cd A outer s H E).s₀.heap.get? b=some o→b∉(cxOf (CXr P w) P w K mg base N qual scope f cd A outer s H E).fs→∃ o',(PySem.W.hideAll s1.heap (frs (cxOf (CXr P w) P w K mg base N qual scope f cd A outer s H E).stack)).get? b=some o':=fun b o q hb=>by
  obtain ⟨o1,e1⟩:=I.base.there b o q (fun z=>by cases z)
  exact ⟨o1,PySem.W.hideAll_get _ e1 (I.offStack q hb)⟩
 have tr:∀ b u,H1 b=some u→∃ o',(PySem.W.hideAll s1.heap (frs (cxOf (CXr P w) P w K mg base N qual scope f cd A outer s H E).stack)).get? b=some o':=fun b u q=>by
  obtain ⟨o1,e1⟩:=(I.hok b u q).ex
  exact ⟨o1,PySem.W.hideAll_get _ e1 (fun z=>by rw [I.stkFree b z] at q;cases q)⟩
 refine wpAny_leaves_madeW I.ok.frames rfl hkb (PySem.W.funFrames_hide I.stack fun env he a ha=>List.mem_filterMap.mpr ⟨env,he,ha⟩) mx fun h2 t fl tup hn sm=>?_
 obtain ⟨un,hk⟩:=leave_un I rfl hkb fl.1 (fun b o q hb=>sm b o (mx.keeps b o q) (I.nonrec q hb)) dm tr
 exact ⟨e,cls,.ref t,_,H1,rfl,I.os,I.bare,un,hk,fl,dm,tr,hE⟩
end
theorem Fun.okX {P:Program} {w:World} {K:PySem.W.Frag} {mg:Str→Option Value} {base:Heap} {x qual:Str} {st:Stmt} {f:Addr} {fd:FuncData} {N ps:List Str} {k:Nat} {sp:Sp} (F:Fun K x qual st f fd) (S:FnScope N ps (defScope st)) (len:∀ vs H Q E,sp vs H Q E→vs.length=ps.length)
  (hbody:∀ (cdv:Value) (A:Around) (outer:List Env) (s:Shared) (H:Hp) (vs:List V) (Q:VK) (E:XK),Room k (A.deeper (envOfC qual (defScope st) s.heap.objs.size f cdv))→sp vs H Q E →
   ∃ t,PSs (cxOf (CXr P w) P w K mg base N qual (defScope st) f cdv A outer s H E) (defBody st) t∧t { nx:=fun _ H'=>Q .non H',rt:=Q } (start N vs) H) :
  FnOk P w K mg base (CXr P w) (k+1) f fd ps sp:=by
 obtain ⟨oc,od,kV,doc,pm,an,cdv,ct,osl,rfl,lk,hcd⟩:=F.ex
 exact fn_of lk hcd S len fun A outer s H vs Q E hr h=>hbody cdv A outer s H vs Q E hr h
abbrev bmV:List Value:=[.type "ValueError",.type "Exception",.type "BaseException",.type "object"]
structure ExcCls (K:PySem.W.Frag) (x:Str) (C:Addr):Prop where
 at_:PySem.W.nsIn K mainGlobals x=some (some (.ref C))
 exc:PySem.W.excIn K C bmV "ValueError.__new__"=true
def keyStr (e:DictEntry):Option Str:=match e.key with
 | .str n _=>some n
 | _=>none
theorem nsFind_none {es:Array DictEntry} (hk:StrKeys es) {x:Str} (h:x∉es.toList.filterMap keyStr):nsFind es x=none:=by
 cases e:nsFind es x with
 | none=>rfl
 | some v =>
  exfalso
  unfold nsFind findBy at e
  rw [Option.map_eq_some_iff] at e
  obtain ⟨d,hd,_⟩:=e
  have hm:=Array.mem_of_find?_eq_some hd
  have hp:=Array.find?_some hd
  obtain ⟨n,t,hn⟩:=hk d hm
  refine h (List.mem_filterMap.mpr ⟨d,by simpa using hm,?_⟩)
  unfold keyStr
  rw [hn] at hp ⊢
  have hp:(Value.str n t).isStr x=true:=hp
  simp [Value.isStr] at hp
  simp [hp]
theorem own_mod {K:PySem.W.Frag} {mg:Str→Option Value} {base:Heap} {x:Str} {C:Addr} (M:Mod K mg base) (O:ExcCls K x C):OwnCls x C bmV "ValueError.__new__" mg base:=by
 obtain ⟨mb,hb,hbb⟩:=M.blt
 obtain ⟨o,es,ep,ho,hd,hk,hf⟩:=id M.glob
 exact PySem.W.own_of_in (p:=default) (loose:=es.toList.filterMap keyStr) M.kin ⟨M.glob,hb,M.nolimit,hbb,fun y _ hl _ _ _=>by rw [← hf y];exact nsFind_none hk hl⟩ O.at_ O.exc
def tRaise (E:XK) (C:Addr) (ta:TA):TS:=fun _ σ H=>ta σ H fun vs H1=>vs.length≤sizeLine∧E (.ref C) none H1
theorem ps_raise {X:Cx} {E:XK} {x:Str} {C:Addr} {e:Expr} {es:List Expr} {ta:TA} {np cpos pos:Pos} (xm:Xm X E) (hc:X.calm=true) (hg:Gl X x) (hm:X.mg x=some (.ref C)) (O:ExcCls X.K x C) (ha:PA X (e :: es) ta)
  (hd:(x == ("__debug__":Str))=false:=by decide) (he:starEach (e :: es) X.env=(false,eval e X.env) :: starEach es X.env:=by rfl) (hpl:(backTo cpos (starEach es X.env)).any (·.1)=false:=by rfl) :
  PS X (.Raise (some (.Call (.Name x np) (e :: es) [] cpos)) none pos) (tRaise E C ta):=by
 intro pins s σ H D I h
 obtain ⟨tl,Nn,nm,q,bs,hdct,sn,sub,ab,col,dd,k0,k1,k2,k3,k5,mN,hC,hN,hni,T⟩:=(own_mod I.mod O).obj
 refine wpAny_Raise_call_subT (C:=C) (nm:=nm) (q:=q) (N:=Nn) (bs:=bs) (bm:=tl) (hdct:=hdct) (sn:=sn) (sub:=sub) (ab:=ab) (col:=col) (dd:=dd) (k0:=k0) (k1:=k1) (k2:=k2) (k3:=k3) (k5:=k5)
  PySem.F.excBase_ValueError (mN:=mN) (T.hasType PySem.F.excBase_ValueError.hasBase) (I.ok.hd hc) (by rw [he];show (false || (backTo cpos (starEach es X.env)).any (·.1))=false;rw [hpl];rfl) hni (ld_glob I hg hm ⟨rfl,?_⟩ hd)
 have hA:=ha cpos pins s σ H _ I h
 rw [he] at hA ⊢
 refine Calls.evalArgs_plain (thn hA fun us s2 hh=>?_)
 obtain ⟨vs,H2,I2,rv,hl,hE⟩:=hh
 exact ⟨rfl,by rw [← rv.length];exact hl,I2.bk _ _ hC,hN.keeps I2.bk,T.keeps I2.bk,fun h' ea mx=>xm pins σ H2 s2 h' ea _ _ I2 mx hE⟩
def PJ (X:Cx) (es:List Expr) (t:St→Hp→(Hp→Prop)→Prop):Prop :=
 ∀ (out:Str) (pins:List (Addr×Obj)) (s:Shared) (σ:St) (H:Hp) (Q:VK),out.length+1000 * es.length+1≤sizeLine→Inv X pins σ H s→t σ H (fun H'=>∀ x,Q (.str x) H')→wpAny (model X.prog X.w) X.A (joinParts out (evalEach es X.env)) (EP X pins σ Q) X.xe s
def jNil:St→Hp→(Hp→Prop)→Prop:=fun _ H Q=>Q H
def jStr (t:St→Hp→(Hp→Prop)→Prop):St→Hp→(Hp→Prop)→Prop:=t
def jInt (te:TE) (t:St→Hp→(Hp→Prop)→Prop):St→Hp→(Hp→Prop)→Prop:=fun σ H Q=>te σ H fun x H1=>∃ i:Int,x=.int i∧i.natAbs.log2 < 64∧t σ H1 Q
def tJoined (t:St→Hp→(Hp→Prop)→Prop):TE:=fun σ H Q=>t σ H fun H'=>∀ x,Q (.str x) H'
section
variable {X:Cx} {e:Expr} {es:List Expr} {te:TE} {t:St→Hp→(Hp→Prop)→Prop} {pos p1 p2:Pos} {c:Str} {k:Nat}
theorem pj_nil:PJ X [] jNil:=fun out pins s σ H Q hz I h=>joinParts_nil ⟨.str out,H,I.tok _,⟨_,rfl⟩,h out⟩ (by omega)
theorem pj_str (hr:PJ X es t) (hc:c.length≤1000:=by decide):PJ X (.Constant (.str c) k pos :: es) (jStr t):=by
 intro out pins s σ H Q hz I h
 refine joinParts_cons (Calls.Constant_str ?_)
 rw [List.length_cons] at hz
 have hl:(out++c).length=out.length+c.length:=strLen_append ..
 exact ⟨by rw [hl];omega,hr (out++c) pins _ σ H Q (by rw [hl];omega) (I.tok _) h⟩
theorem pj_int (he:PE X e te) (hr:PJ X es t):PJ X (.FormattedValue e (-1) none pos :: es) (jInt te t):=by
 intro out pins s σ H Q hz I h
 refine joinParts_cons (FormattedValue_plain (thn (he pins s σ H _ I h) fun v s1 hh=>?_))
 obtain ⟨x,H1,I1,r,i,rfl,hi,h1⟩:=hh
 obtain ⟨tk,rfl⟩:=r
 rw [List.length_cons] at hz
 refine formatField_int_small (Nat.lt_trans hi (by decide)) ?_
 have hl:(out++(Str.ofString (toString i))).length=out.length+(Str.ofString (toString i)).length:=strLen_append ..
 have h2:=int_text_length_le (a:=i) (k:=64) (by decide) hi
 have h3:(Str.ofString (toString i)).length=(toString i).length:=PySem.ofString_length _
 exact ⟨by rw [show (out++(toString i:Str)).length=_ from hl,h3];omega,hr _ pins _ σ H1 Q (by rw [show (out++(toString i:Str)).length=_ from hl,h3];omega) (I1.tok _) h1⟩
theorem pe_joined {v₁ v₂:Expr} (h:PJ X (v₁ :: v₂ :: es) t) (hz:1000 * (es.length+2)+1≤sizeLine:=by decide):PE X (.JoinedStr (v₁ :: v₂ :: es) pos) (tJoined t):=by
 intro pins s σ H Q I hw
 exact JoinedStr_many (h Str.empty pins s σ H Q (by show 0+1000 * (es.length+1+1)+1≤sizeLine;omega) I hw)
end
end L2
namespace L2
open PySem PySem.W PySem.Spec PyProof.Rows PySem.Calls
section
variable {prog:Program} {w:World} {A:Around} {E:Value→Shared→Prop} {h:Heap} {g:Array GenState} {d:Drawn} {t:Nat} {os:OsState} {a C:Addr} {o:Obj} {K:Frag}
 {nm q:Str} {N:Addr} {bs bm:List Value} {hdct:Bool} {sn:List Str} {sub:List Value} {ab:Bool} {col:Option Bool} {dd:Option Addr} {k0 k1 k2 k3 k5:Option Value} {newId:String}
theorem xc_get {R:Result→Shared→Prop} {tp:Value} (hC:h.get? C=some (excClassObj nm q C N bs bm hdct sn sub ab col dd k0 k1 k2 k3 k5 newId)) (T:OwnTail h bmV bm) (hx:h.get? a=some o) (hc:o.cls=.ref C) (hq:R (.ok (.ret (.ref C))) ⟨h,g,d,t,os⟩) :
  codeAny (model prog w) A (.call (.builtin "getset_descriptor.__get__") ⟨[.builtin "object.__class__",.ref a,tp],[]⟩) R ⟨h,g,d,t,os⟩:=by
 have ofObj:(Value.ref C :: bm).contains (.type (".".intercalate ("object.__class__".cutAt '.').dropLast))=true:=by
  rw [F.owner_object_class,List.contains_cons,T.hasType (b:=true) (by decide +kernel)];rfl
 have hT5:(⟨h,g,d,t,os⟩:Shared).TypeIs (.builtin "object.__class__") "getset_descriptor":=F.typeOf_object_class
 refine codeAny_call_builtin F.slot_gs_get.plain
  F.entry_gs_get (F.slot_gs_get.check _ _ _ _ _ _ _ _ hT5
   (F.args_gs_get _ _ _) ?_)
 repeat (any_goals (first | assumption | (with_reducible refine wpAny_loadPart_at hx ?_;rw [hc]) | (with_reducible refine wpAny_isSubtype_exc hC ?_;rw [ofObj]) | wp_step))
 refine ⟨Code.quiet_builtin _ (by decide +kernel),codeAny_builtin
  F.entry_object_class ?_⟩
 repeat (any_goals (first | assumption | (with_reducible refine wpAny_loadPart_at hx ?_;rw [hc]) | wp_step))
theorem xc_entry {tk:Tok} {Q:Fin→Shared→Prop} (X:K.In h) (e3:findIn K (.ref C) "__class__"=some (some (.builtin "object.__class__"))) (hC:h.get? C=some (excClassObj nm q C N bs bm hdct sn sub ab col dd k0 k1 k2 k3 k5 newId)) (T:OwnTail h bmV bm) (hx:h.get? a=some o) (hc:o.cls=.ref C)
  (hq:Q (.done (.ret (.ref C))) ⟨h,g,d,t,os⟩) :
  wpAny (model prog w) A (Builtin.«object.__getattribute__» ⟨[.ref a,.str "__class__" tk],[]⟩) Q E ⟨h,g,d,t,os⟩:=by
 have hT5:(⟨h,g,d,t,os⟩:Shared).TypeIs (.builtin "object.__class__") "getset_descriptor":=F.typeOf_object_class
 have f5:=F.typeOf_object_class
 have f6:=F.slot_gs_get.lookup
 have f7:=F.slot_gs_set.lookup
 have LC:=looks_findIn (M:=model prog w) X e3
 repeat (any_goals (first | assumption | (with_reducible refine wpAny_loadPart_at hx ?_;rw [hc]) | with_reducible refine Looks.at LC ?_ | wp_step))
 refine xc_get hC T hx hc ?_
 repeat (any_goals (first | assumption | wp_step))
theorem xc_check {M:Model} {nv:Value} {Q:Unit→Shared→Prop} (hC:h.get? C=some (excClassObj nm q C N bs bm hdct sn sub ab col dd k0 k1 k2 k3 k5 newId)) (T:OwnTail h bmV bm) (hx:h.get? a=some o) (hc:o.cls=.ref C)
  (hq:Q () ⟨h,g,d,t,os⟩):wpAny M A (checkBuiltinCall "BaseException.__getattribute__" ⟨[.ref a,nv],[]⟩) Q E ⟨h,g,d,t,os⟩:=by
 have kd:builtinKind "BaseException.__getattribute__"=some .slot:=by decide +kernel
 have sp:splitId "BaseException.__getattribute__"=some ("BaseException","__getattribute__"):=by decide +kernel
 have isB:(Value.ref C :: bm).contains (.type "BaseException")=true:=by
  rw [List.contains_cons,T.hasType (b:=true) (by decide +kernel)];rfl
 have ok:=F.args_bexc_ga (.ref a) nv
 simp only [checkBuiltinCall,kd,sp]
 refine wpAny_bind ?_
 unfold isInstance
 repeat (first | (with_reducible refine wpAny_loadPart_at hx ?_;rw [hc]) | (with_reducible refine wpAny_isSubtype_exc hC ?_;rw [isB]) | wp_step)
 exact hq
theorem xc_by {tk:Tok} {Q:Value→Shared→Prop} (X:K.In h) (e1:findIn K (.ref C) "__getattribute__"=some (some (.builtin "BaseException.__getattribute__"))) (e2:findIn K (.ref C) "__getattr__"=some none)
  (e3:findIn K (.ref C) "__class__"=some (some (.builtin "object.__class__"))) (hC:h.get? C=some (excClassObj nm q C N bs bm hdct sn sub ab col dd k0 k1 k2 k3 k5 newId)) (T:OwnTail h bmV bm) (hx:h.get? a=some o) (hc:o.cls=.ref C)
  (hq:Q (.ref C) ⟨h,g,d,t,os⟩):wpAny (model prog w) A (getAttrBy (.ref a) (.str "__class__" tk) false) Q E ⟨h,g,d,t,os⟩:=by
 have LG:=looks_findIn (M:=model prog w) X e1
 have LN:=looks_findIn (M:=model prog w) X e2
 have f3:=PySem.F.attr_ValueError.ga.bind (.ref a)
 have nh:(onTheHeap (Value.ref C) && Value.builtin "BaseException.__getattribute__" == Value.builtin "object.__getattribute__")=false:=by
  rw [show (Value.builtin "BaseException.__getattribute__" == Value.builtin "object.__getattribute__")=false from by decide +kernel,Bool.and_false]
 repeat (any_goals (first | assumption | (with_reducible refine wpAny_loadPart_at hx ?_;rw [hc]) | with_reducible refine Looks.at LG ?_ | with_reducible refine Looks.at LN ?_ | wp_step))
 refine codeAny_call_builtin PySem.F.attr_ValueError.ga.plain F.entry_bexc_ga (xc_check hC T hx hc (xc_entry X e3 hC T hx hc ?_))
 repeat (any_goals (first | assumption | wp_step))
theorem xc_attr {Q:Option Value→Shared→Prop} (X:K.In h) (e1:findIn K (.ref C) "__getattribute__"=some (some (.builtin "BaseException.__getattribute__"))) (e2:findIn K (.ref C) "__getattr__"=some none)
  (e3:findIn K (.ref C) "__class__"=some (some (.builtin "object.__class__"))) (hC:h.get? C=some (excClassObj nm q C N bs bm hdct sn sub ab col dd k0 k1 k2 k3 k5 newId)) (T:OwnTail h bmV bm) (hx:h.get? a=some o) (hc:o.cls=.ref C)
  (hq:Q (some (.ref C)) ⟨h,g,d,t+1,os⟩):wpAny (model prog w) A (getAttr? (.ref a) "__class__") Q E ⟨h,g,d,t,os⟩:=by
 unfold getAttr? getAttrBy?
 repeat (any_goals (first | assumption | with_reducible apply xc_by X e1 e2 e3 hC T hx hc | wp_step))
end
structure ExcK (K:Frag) (x:Str) (C:Addr):Prop extends ExcCls K x C where
 e1:findIn K (.ref C) "__getattribute__"=some (some (.builtin "BaseException.__getattribute__"))
 e2:findIn K (.ref C) "__getattr__"=some none
 e3:findIn K (.ref C) "__class__"=some (some (.builtin "object.__class__"))
 e4:(clsIn K C).isSome=true
def ExcAt (ea C:Addr):Heap→Prop:=fun h=>∃ o vs,h.get? ea=some o∧o.cls=.ref C∧o.data=.fields vs
theorem kitx_exc {K:Frag} {mg:Str→Option Value} {base:Heap} {x:Str} {C ea:Addr} (M:Mod K mg base) (O:ExcK K x C) :
  KitX K (.ref ea) (.ref C) (fun h=>ExcAt ea C h∧∀ b o,base.get? b=some o→h.get? b=some o) where
 ty:=fun _ h _ p=>by
  obtain ⟨⟨o,vs,hx,hc,_⟩,_⟩:=p
  exact hc ▸ (Looks.ld hx).andThen .now
 it:=fun _ h X _=>by
  have e:=O.e4
  unfold clsIn at e
  split at e
  ·rename_i c' d' cd' sl' ho
   intro A' Q' E' s' k q
   unfold isType loadHead
   exact wpAny_bind (wpAny_loadPart (k _ _ (X _ _ ho)) (wpAny_pure q))
  ·cases e
 ne:=fun h tp dd its n sl X htp=>by
  refine Bool.eq_false_iff.mpr fun q=>?_
  have e:=O.e4
  have z:C=tp:=Value.ref.inj (beq_iff_eq.mp q)
  subst z
  unfold clsIn at e
  split at e
  ·rename_i c' d' cd' sl' ho
   have z:=(X _ _ ho).symm.trans htp
   cases z
  ·cases e
 ca:=fun {prog w A E Q s} X p k=>by
  obtain ⟨hp,g,d,t,os⟩:=s
  obtain ⟨⟨o,vs,hx,hc,_⟩,kp⟩:=p
  obtain ⟨tl,Nn,nm,q,bs,hdct,sn,sub,ab,col,dd,k0,k1,k2,k3,k5,mN,hC,hN,hni,T⟩:=((own_mod M O.toExcCls).keeps kp).obj
  exact xc_attr X O.e1 O.e2 O.e3 hC T hx hc k
end L2
namespace L2
open PySem PySem.Spec PyProof.Rows
structure RoomH (k:Nat) (A:Around):Prop where
 dp:A.depth+3 * k+5 < recursionLimit
 un:A.units+16 * k+200 < cLine
theorem RoomH.deeper {k:Nat} {A:Around} (r:RoomH (k+1) A) (env:Env):RoomH k (A.deeper env) :=
 ⟨by have:=r.dp;show A.depth+1+3 * k+5 < _;omega,by have:=r.un;show A.units+3+16 * k+200 < _;omega⟩
theorem RoomH.depth {k:Nat} {A:Around} (r:RoomH k A):A.depth < recursionLimit:=by have:=r.dp;omega
structure FnOkH (P:Program) (w:World) (K:PySem.W.Frag) (mg:Str→Option Value) (base:Heap) (CX:CXT) (k:Nat) (f:Addr) (fd:FuncData) (ps:List Str) (sp:Sp):Prop where
 len:∀ vs H Q E,sp vs H Q E→vs.length=ps.length
 run:∀ (A:Around) (outer:List Env) (s:Shared) (H:Hp) (args:Args) (us:List Value) (vs:List V) (Q:VK) (E:XK),RoomH k A→Env0 P w K mg base A outer s H→BindsTo s fd args (ps.zip us)→Vals vs us→sp vs H Q E →
  codeAny (model P w) A (.call (.ref f) args) (CR CX outer P w H s Q E) s
section
variable {X:Cx} {CX:CXT} {k:Nat} {f C:Addr} {fd:FuncData} {ps:List Str} {sp:Sp} {dvs:List V} {ds:List Value} {E:XK} {x m:Str} {p pos apos:Pos} {e o:Expr} {es:List Expr} {ta:TE} {t:TA}
theorem run_fnH {pins:List (Addr×Obj)} {σ:St} {H:Hp} {s:Shared} {Q:VK} {us:List Value} {vs:List V} (F:FnOkH X.prog X.w X.K X.mg X.base CX k f fd ps sp) (hr:RoomH k X.A) (hb:Binds X.K fd ps ds) (hd:Vals dvs ds) (hx:Passes CX X E)
  (I:Inv X pins σ H s) (r:Vals vs us) (h:sp (vs++dvs) H Q E):wpAny (model X.prog X.w) X.A (call (.ref f) us) (EP X pins σ Q) X.xe s:=by
 have r2:Vals (vs++dvs) (us++ds):=r.append hd
 have hl:(us++ds).length=ps.length:=by rw [← r2.length];exact F.len _ _ _ _ h
 refine wpAny_call (codeAny_mono (F.run X.A X.stack s H ⟨us,[]⟩ (us++ds) (vs++dvs) Q E hr I.env0 (hb s us I.kIn hl) r2 h) fun r s' hq=>?_)
 cases r with
 | error e=>exact hx pins σ H s e s' I hq
 | ok fl =>
  cases fl with
  | ret u=>exact I.after hq
  | next=>exact False.elim hq
  | brk=>exact False.elim hq
  | cont=>exact False.elim hq
theorem pe_callH (F:FnOkH X.prog X.w X.K X.mg X.base CX k f fd ps sp) (hr:RoomH k X.A) (hg:Gl X x) (hm:X.mg x=some (.ref f)) (hk:PySem.W.keepIn X.K (.ref f)=true) (hb:Binds X.K fd ps ds) (hd:Vals dvs ds) (hx:Passes CX X E)
  (ha:PA X (e :: es) t) (hdb:(x == ("__debug__":Str))=false:=by decide) (he:starEach (e :: es) X.env=(false,eval e X.env) :: starEach es X.env:=by rfl) (hpl:(backTo pos (starEach es X.env)).any (·.1)=false:=by rfl) :
  PE X (.Call (.Name x p) (e :: es) [] pos) (tCall sp dvs E t):=by
 intro pins s σ H Q I h
 refine wpAny_Call_Name_kw (ld_glob I hg hm ?_ hdb)
 refine PySem.W.callWith_K (h₀:=X.base) I.ok.mod.kin hk (thn (ha pos pins s σ H _ I h) fun us s1 ⟨vs,H1,I1,r,q⟩=>⟨I1.kIn,?_⟩) he hpl
 exact run_fnH F hr hb hd hx I1 r q
end
def cxOfH (CX:CXT) (P:Program) (w:World) (K:PySem.W.Frag) (mg:Str→Option Value) (base:Heap) (N:List Str) (qual:Str) (scope:Scope) (f:Addr) (cd:Value) (A:Around) (outer:List Env) (s:Shared) (H:Hp) (E:XK):Cx where
 prog:=P
 w:=w
 K:=K
 mg:=mg
 base:=base
 A:=A.deeper (envOfC qual scope s.heap.objs.size f cd)
 N:=N
 s₀:=s
 H₀:=H
 env:=envOfC qual scope s.heap.objs.size f cd
 outer:=outer
 stack:=envOfC qual scope s.heap.objs.size f cd :: outer
 ex:=[]
 calm:=false
 fn:=fun _=>true
 pn:=[]
 xe:=fun e s'=>wpAny (model P w) (A.deeper (envOfC qual scope s.heap.objs.size f cd)) (leaving (envOfC qual scope s.heap.objs.size f cd) e) (fun _ s''=>CX outer H s E e s'') (fun e' s''=>CX outer H s E e' s'') s'
theorem inv_startH {CX:CXT} {P:Program} {w:World} {K:PySem.W.Frag} {mg:Str→Option Value} {base:Heap} {N ps:List Str} {qual:Str} {scope:Scope} {f:Addr} {cd:Value} {A:Around} {outer:List Env} {s s1:Shared} {H:Hp} {E:XK} {us:List Value} {vs:List V}
  (S:FnScope N ps scope) (e0:Env0 P w K mg base A outer s H) (hl:vs.length=ps.length) (r:Vals vs us)
  (x:InCallC s s.heap.objs.size (bindL (envOfC qual scope s.heap.objs.size f cd).kindOf (ps.zip us) fun _=>none) (cellsFrom (s.heap.objs.size+1) scope.names []) (bindC (envOfC qual scope s.heap.objs.size f cd).kindOf (ps.zip us) fun _=>none) s1) :
  Inv (cxOfH CX P w K mg base N qual scope f cd A outer s H E) [] (start N vs) H s1:=by
 have hpl:ps.length≤N.length:=by have:=congrArg List.length S.pre;rw [List.length_take] at this;omega
 obtain ⟨h1,tk,rfl,hk⟩:=x.done
 have noA:∀ b:Addr,b∉(cxOfH CX P w K mg base N qual scope f cd A outer s H E).ex:=fun b z=>absurd (show b∈([]:List Addr) from z) (by simp)
 refine ⟨⟨e0.mod,S.kind,rfl,rfl,Nat.le_refl _,fun y z c h1 h2=>?_,fun y hy=>?_,fun y c _ h=>?_,fun z=>(by cases z),Around.frames_deeper e0.frames,.inr ⟨rfl,rfl⟩,fun b z=>absurd z (noA b),e0.bs,e0.bsz,fun b _ _=>noA b,fun b z=>absurd z (noA b),e0.funs,e0.frf⟩,
  rfl,e0.bare,Un.kept hk,⟨_,x.toInCall.ns,fun i y v h1 h2 h3=>?_⟩,fun y c h=>⟨_,x.cell y c h⟩,e0.hok.fresh (Nat.le_refl _),fun y c h=>?_,fun p hp=>absurd (show p∈([]:List (Addr×Obj)) from hp) (by simp),e0.hok.kept hk,?_⟩
 ·exact name_of_addr x.apart (PySem.mem_of_lookup h1) (PySem.mem_of_lookup h2)
 ·have hy:scope.names.lookup y=some .cell∨scope.names.lookup y=some .free:=hy
  rcases hy with hy | hy
  ·exact cell_has hy
  ·exact absurd rfl (S.nofree _ (PySem.mem_of_lookup hy))
 ·exact Nat.le_of_lt (x.above y c (PySem.mem_of_lookup h))
 ·have hi:i < vs.length:=by
   unfold start at h2
   by_cases hi:i < vs.length
   ·exact hi
   ·rw [List.getElem?_append_right (by simpa using hi)] at h2
    rw [List.getElem?_replicate] at h2
    split at h2 <;> cases h2
  have ha:vs[i]?=some v:=by
   unfold start at h2
   rw [List.getElem?_append_left (by simpa using hi),List.getElem?_map] at h2
   cases e:vs[i]? with
   | none=>rw [e] at h2;cases h2
   | some a=>rw [e] at h2;cases h2;rfl
  obtain ⟨u,hu,rv⟩:=r.get ha
  have hp:ps[i]?=some y:=by
   rw [← S.pre,List.getElem?_take_of_lt (by omega)];exact h1
  have ndP:ps.Nodup:=by rw [← S.pre];exact S.nd.sublist (List.take_sublist _ _)
  refine ⟨u,rv,?_⟩
  rcases S.par y (List.mem_of_getElem? hp) with k | k
  ·exact .inl ⟨k,bindL_get ndP hp hu k⟩
  ·obtain ⟨c,e⟩:=cell_has (n:=s.heap.objs.size+1) k
   refine .inr ⟨.inl k,c,e,?_⟩
   have q:=x.cell y c e
   rw [bindC_get ndP hp hu (by show scope.names.lookup y≠_;rw [k];decide)] at q
   exact q
 ·exact e0.hok.fresh (Nat.le_of_lt (x.above y c (PySem.mem_of_lookup h)))
 ·unfold start
  show _=N.length
  rw [List.length_append,List.length_map,List.length_replicate]
  omega
theorem fn_ofH {CX:CXT} {P:Program} {w:World} {K:PySem.W.Frag} {mg:Str→Option Value} {base:Heap} {k:Nat} {f:Addr} {name qual:Str} {params:Arguments} {body:List Stmt} {scope:Scope} {dV kV doc pm cdv ct oc:Value} {an od:Option Addr}
  {osl:Array (Option Value)} {N ps:List Str} {sp:Sp} (lk:K.lookup f=some ⟨oc,od,.func (PySem.W.fnOf name qual params body scope dV kV doc pm an cdv ct),osl⟩) (hcd:PySem.W.codeIn K cdv qual=true) (S:FnScope N ps scope)
  (len:∀ vs H Q E,sp vs H Q E→vs.length=ps.length)
  (hbody:∀ (A:Around) (outer:List Env) (s:Shared) (H:Hp) (vs:List V) (Q:VK) (E:XK),RoomH k (A.deeper (envOfC qual scope s.heap.objs.size f cdv))→sp vs H Q E →
   ∃ t,PSs (cxOfH CX P w K mg base N qual scope f cdv A outer s H E) body t∧t { nx:=fun _ H'=>Q .non H',rt:=Q } (start N vs) H) :
  FnOkH P w K mg base CX (k+1) f (PySem.W.fnOf name qual params body scope dV kV doc pm an cdv ct) ps sp:=by
 refine ⟨len,fun A outer s H args us vs Q E hr e0 hb r hsp=>?_⟩
 have hl:=len _ _ _ _ hsp
 have KX:K.In s.heap:=e0.mod.kin.keeps fun b o e=>(e0.bs b o e).1
 have lim:s.heap.NoLimit:=e0.mod.nolimit.keeps fun b o e=>(e0.bs b o e).1
 have hkind:∀ y∈ps.zip us,scope.names.lookup y.1=some .local∨(scope.names.lookup y.1=some .cell∧((cellsFrom (s.heap.objs.size+1) scope.names []).lookup y.1).isSome=true):=fun ⟨n,v⟩ hy=>by
  rcases S.par n (List.of_mem_zip hy).1 with q | q
  ·exact .inl q
  ·exact .inr ⟨q,PySem.W.cellsFrom_some _ _ _ (.inl q)⟩
 refine codeAny_call_function hr.depth (KX _ _ lk) rfl S.co S.gen rfl (PySem.W.codeRec_of KX hcd) (hb _ _ _ _ ?_)
 refine wpAny_newFunctionEnv_cells S.kind hkind fun env he s1 x=>?_
 subst he
 refine ⟨lim.keeps x.toInCall.keep,codeAny_func ?_⟩
 obtain ⟨t,ht,hq⟩:=hbody A outer s H vs Q E (hr.deeper _) hsp
 have I:Inv (cxOfH CX P w K mg base N qual scope f cdv A outer s H E) [] (start N vs) H s1:=inv_startH S e0 hl r x
 refine wpAny_mono (ht [] s1 (start N vs) H _ I hq) (fun fl s' hs=>?_) fun e s' hs=>hs
 have fin:∀ {σ':St} {H':Hp} {v:V} {u:Value},Inv (cxOfH CX P w K mg base N qual scope f cdv A outer s H E) [] σ' H' s'→RelV v u→Q v H'→CE outer P w H s Q u s' :=
  fun {σ' H' v u} J rv q=>⟨v,H',J.os,J.bare,J.base,J.hok,rv,q⟩
 cases fl with
 | ret u =>
  obtain ⟨v,σ',H',J,rv,q⟩:=hs
  exact fin J rv q
 | next =>
  obtain ⟨σ',H',J,q⟩:=hs
  exact fin (v:=V.non) (u:=Value.none) J rfl q
 | brk =>
  obtain ⟨_,_,_,q⟩:=hs
  exact False.elim q
 | cont =>
  obtain ⟨_,_,_,q⟩:=hs
  exact False.elim q
section
variable {P:Program} {w:World} {K:PySem.W.Frag} {mg:Str→Option Value} {base:Heap}
theorem Fun.okH {x qual:Str} {st:Stmt} {f:Addr} {fd:FuncData} {N ps:List Str} {k:Nat} {sp:Sp} (F:Fun K x qual st f fd) (S:FnScope N ps (defScope st)) (len:∀ vs H Q E,sp vs H Q E→vs.length=ps.length)
  (hbody:∀ (cdv:Value) (A:Around) (outer:List Env) (s:Shared) (H:Hp) (vs:List V) (Q:VK) (E:XK),RoomH k (A.deeper (envOfC qual (defScope st) s.heap.objs.size f cdv))→sp vs H Q E →
   ∃ t,PSs (cxOfH CX0 P w K mg base N qual (defScope st) f cdv A outer s H E).nox (defBody st) t∧t { nx:=fun _ H'=>Q .non H',rt:=Q } (start N vs) H):FnOkH P w K mg base CX0 (k+1) f fd ps sp:=by
 obtain ⟨oc,od,kV,doc,pm,an,cdv,ct,osl,rfl,lk,hcd⟩:=F.ex
 refine fn_ofH lk hcd S len fun A outer s H vs Q E hr hsp=>?_
 obtain ⟨t,h,q⟩:=hbody cdv A outer s H vs Q E hr hsp
 exact ⟨t,h.nox,q⟩
end
end L2
namespace L2
open PySem PySem.Spec PyProof.Rows
theorem vals_refs:∀ {cs:List Addr} {us:List Value},Vals (cs.map V.ref) us→us=cs.map Value.ref
 | [],_,r=>by cases r;rfl
 | c :: cs,_,r=>by
  cases r with
  | cons r rr=>cases r;rw [vals_refs rr];rfl
section
variable {X:Cx} (K:PySem.W.Frag)
theorem call_isinstX (hK:X.K=K:=by rfl):CallR X (.builtin "isinstance") (fun xs H Q=>∃ (ea C:Addr) (x:Str) (c:V) (cv:Value) (b:Bool),xs=[.ref ea,c]∧H ea=some (.ext (ExcAt ea C))∧ExcK K x C∧cvV c=some cv∧PySem.W.kitOne K (.ref C) cv=some b∧Q (.bl b) H):=by
 subst hK
 intro pins s σ H xs us Q I r h
 obtain ⟨ea,C,x,c,cv,b,rfl,he,O,hc,hk,q⟩:=h
 obtain ⟨u,w',rfl,r1,r2⟩:=vals2 r
 have e:w'=cv:=by
  cases c with
  | ty n=>have h1:w'=Value.type n:=r2;have h2:some (Value.type n)=some cv:=hc;cases h2;exact h1
  | ref a=>have h1:w'=Value.ref a:=r2;have h2:some (Value.ref a)=some cv:=hc;cases h2;exact h1
  | non=>cases hc
  | bl _=>cases hc
  | int _=>cases hc
  | str _=>cases hc
  | byt _=>cases hc
  | flt _=>cases hc
 subst e
 cases r1
 have φ:ExcAt ea C s.heap:=(show ObjOk X.prog X.w H s.heap ea (.ext (ExcAt ea C)) from I.hok ea _ he).1
 exact PySem.W.kia_one (kitx_exc I.mod O) I.kIn ⟨φ,I.bk⟩ hk (fun z=>nomatch z) fun tk=>⟨.bl b,H,I.tok tk,rfl,q⟩
theorem call_isinstXT (hK:X.K=K:=by rfl):CallR X (.builtin "isinstance") (fun xs H Q=>∃ (ea C:Addr) (x:Str) (tp:Addr) (cs:List Addr) (b:Bool),xs=[.ref ea,.ref tp]∧H ea=some (.ext (ExcAt ea C))∧ExcK K x C∧H tp=some (.tup (cs.map V.ref))∧PySem.W.kitAny K (.ref C) (cs.map Value.ref)=some b∧Q (.bl b) H):=by
 subst hK
 intro pins s σ H xs us Q I r h
 obtain ⟨ea,C,x,tp,cs,b,rfl,he,O,ht,hk,q⟩:=h
 obtain ⟨u,w',rfl,r1,r2⟩:=vals2 r
 cases r1
 cases r2
 have φ:ExcAt ea C s.heap:=(show ObjOk X.prog X.w H s.heap ea (.ext (ExcAt ea C)) from I.hok ea _ he).1
 obtain ⟨_,its,rv,o,h1,h2,n,h3⟩:=(show ObjOk X.prog X.w H s.heap tp (.tup (cs.map V.ref)) from I.hok tp _ ht)
 have ei:=vals_refs rv
 subst ei
 obtain ⟨cl,dd,dt,sl⟩:=o
 have h2:cl=.type "tuple":=h2
 have h3:dt=.seq (cs.map Value.ref).toArray n:=h3
 subst h2 h3
 exact PySem.W.kia_tup (kitx_exc I.mod O) I.kIn ⟨φ,I.bk⟩ h1 hk (fun z=>nomatch z) fun tk=>⟨.bl b,H,I.tok tk,rfl,q⟩
end
def wish2 (X:Cx) (xe:Value→Shared→Prop) (pn:List (Addr×Obj)):Cx:={ X with xe:=xe,pn:=pn }
def suiteX (X:Cx) (ea:Addr) (pn:List (Addr×Obj)):Cx:={ X with A:=X.A.mark (some (.ref ea)),calm:=false,xe:=fun _ _=>False,pn:=pn }
section
variable {X:Cx} {pins pins1:List (Addr×Obj)} {σ:St} {H:Hp} {s:Shared} {xe:Value→Shared→Prop} {ea:Addr}
theorem Inv.toW (I:Inv X pins σ H s):Inv (wish2 X xe (X.pn++pins)) [] σ H s :=
 ⟨⟨I.ok.mod,I.ok.kind,I.ok.glob,I.ok.blt,I.ok.above,I.ok.inj,I.ok.has,I.ok.cab,I.ok.hd,I.ok.frames,I.ok.stk,I.ok.exf,I.ok.bs,I.ok.bsz,I.ok.noex,I.ok.exfs,I.ok.funs,I.ok.frf⟩,I.os,I.bare,I.base,I.loc,I.cell,I.free,I.freeC,
  fun p hp=>I.pin p (by have z:p∈(X.pn++pins)++[]:=hp;simpa using z),I.hok,I.len⟩
theorem Inv.ofW (I:Inv (wish2 X xe (X.pn++pins)) pins1 σ H s):Inv X pins σ H s :=
 ⟨⟨I.ok.mod,I.ok.kind,I.ok.glob,I.ok.blt,I.ok.above,I.ok.inj,I.ok.has,I.ok.cab,I.ok.hd,I.ok.frames,I.ok.stk,I.ok.exf,I.ok.bs,I.ok.bsz,I.ok.noex,I.ok.exfs,I.ok.funs,I.ok.frf⟩,I.os,I.bare,I.base,I.loc,I.cell,I.free,I.freeC,
  fun p hp=>I.pin p (List.mem_append_left _ hp),I.hok,I.len⟩
theorem Inv.toS (I:Inv X pins σ H s):Inv (suiteX X ea (X.pn++pins)) [] σ H s :=
 ⟨⟨I.ok.mod,I.ok.kind,I.ok.glob,I.ok.blt,I.ok.above,I.ok.inj,I.ok.has,I.ok.cab,fun z=>(by cases z),I.ok.frames,I.ok.stk,I.ok.exf,I.ok.bs,I.ok.bsz,I.ok.noex,I.ok.exfs,I.ok.funs,I.ok.frf⟩,I.os,I.bare,I.base,I.loc,I.cell,I.free,I.freeC,
  fun p hp=>I.pin p (by have z:p∈(X.pn++pins)++[]:=hp;simpa using z),I.hok,I.len⟩
theorem Inv.ofS (hd:X.calm=true→X.A.handled=none) (fr:X.A.frames=some X.stack) (I:Inv (suiteX X ea (X.pn++pins)) pins1 σ H s):Inv X pins σ H s :=
 ⟨⟨I.ok.mod,I.ok.kind,I.ok.glob,I.ok.blt,I.ok.above,I.ok.inj,I.ok.has,I.ok.cab,hd,fr,I.ok.stk,I.ok.exf,I.ok.bs,I.ok.bsz,I.ok.noex,I.ok.exfs,I.ok.funs,I.ok.frf⟩,I.os,I.bare,I.base,I.loc,I.cell,I.free,I.freeC,
  fun p hp=>I.pin p (List.mem_append_left _ hp),I.hok,I.len⟩
theorem fly_un {H':Hp} {s':Shared} {B h5:Heap} (I:Inv X pins σ H s) (u:Un (frs X.stack) [] H H' s.heap s'.heap) (hok:HOk X.prog X.w H' s'.heap) (b1:B.StaysIn s'.heap) (b2:B.StaysIn h5) (sm:s'.heap.UpToSlots h5)
  (dm:∀ b o,s.heap.get? b=some o→b∉frs X.stack→∃ o',B.get? b=some o') (tr:∀ b u,H' b=some u→∃ o',B.get? b=some o'):Un (frs X.stack) [] H H' s.heap h5∧HOk X.prog X.w H' h5:=by
 have same:∀ b o,s'.heap.get? b=some o→(∃ o',B.get? b=some o')→h5.get? b=some o:=fun b o e ⟨o',e'⟩=>by
  have z:=b1 b o' e'
  rw [e] at z;cases z
  exact b2 b o e'
 have fr:∀ b o,s.heap.get? b=some o→b∈frs X.stack→∃ sl,h5.get? b=some { o with slots:=sl }:=fun b o q hb=>by
  obtain ⟨sl,e1⟩:=u.slot b o q (I.stkFree b hb) hb (by simp)
  obtain ⟨_,o',e',hd⟩:=I.stack.mem hb
  rw [q] at e';cases e'
  obtain ⟨sl',e2⟩:=sm b _ e1 hd
  exact ⟨sl',e2⟩
 refine ⟨⟨fun b o q n hb hx=>same b o (u.keep b o q n hb hx) (dm b o q hb),fun b o q n hb _=>fr b o q hb,fun b o q n hx=>u.free b o q n hx,fun b o q hx=>?_,u.tups,u.frzs,u.tbls⟩,fun b v e=>?_⟩
 ·by_cases hb:b∈frs X.stack
  ·obtain ⟨sl,e2⟩:=fr b o q hb
   exact ⟨_,e2⟩
  ·obtain ⟨o1,e1⟩:=u.there b o q hx
   exact ⟨_,same b o1 e1 (dm b o q hb)⟩
 ·refine (hok b v e).stay (fun c v hc q=>same c v q ?_) (fun _ q=>q) fun _ _ q=>q
  rcases hc with z | z
  ·rw [z];exact tr b _ e
  ·exact tr c _ z
theorem Inv.goes {i:Nat} {n:Str} {m:Str→Option Value} {h':Heap} {v:Option Value} {t':Nat} (I:Inv X pins σ H s) (hN:X.N.Nodup) (hi:X.N[i]?=some n)
  (hm:∀ (j:Nat) (x:Str) (v:V),X.N[j]?=some x→σ[j]?=some (some v)→Vis X.env.scope x→∃ u,RelV v u∧Look X.env s.heap m x u)
  (hn':h'.Ns X.env.locals (fun x=>if x=n then v else m x)) (hs:Heap.SameBut X.env.locals s.heap h'):Inv X pins (σ.set i none) H { s with heap:=h',toks:=t' }:=by
 have keep:∀ b o,b≠X.env.locals→s.heap.get? b=some o→h'.get? b=some o:=fun b o hb e=>(hs.2 b hb).trans e
 have neL:∀ b o,X.s₀.heap.get? b=some o→b≠X.env.locals:=fun b o e=>Nat.ne_of_lt (Nat.lt_of_lt_of_le (Heap.lt_size e) I.ok.above)
 refine ⟨I.ok,I.os,I.bare,⟨fun b o e q hb hx=>keep b o (neL b o e) (I.base.keep b o e q hb hx),fun b o e q hb hx=>?_,I.base.free,fun b o e hx=>?_,I.base.tups,I.base.frzs,I.base.tbls⟩,⟨_,hn',fun j y w' e1 e2 e3=>?_⟩,fun y c e=>?_,I.free,I.freeC,fun p hp=>?_,fun b ob e=>?_,by simpa using I.len⟩
 ·obtain ⟨sl,e1⟩:=I.base.slot b o e q hb hx
  exact ⟨sl,keep b _ (neL b o e) e1⟩
 ·obtain ⟨o',e1⟩:=I.base.there b o e hx
  exact ⟨o',keep b _ (neL b o e) e1⟩
 ·by_cases hj:i=j
  ·subst hj
   rw [List.getElem?_set] at e2
   simp only [if_true] at e2
   split at e2 <;> cases e2
  ·rw [List.getElem?_set_ne hj] at e2
   have hy:y≠n:=fun z=>hj (nodup_ix hN hi (z ▸ e1))
   obtain ⟨u,r,l⟩:=hm j y w' e1 e2 e3
   refine ⟨u,r,?_⟩
   rcases l with ⟨k,q⟩ | ⟨k,c,q,z⟩
   ·exact .inl ⟨k,by dsimp only;rw [if_neg hy];exact q⟩
   ·obtain ⟨oc,hoc,hcd⟩:=z
    exact .inr ⟨k,c,q,oc,keep c oc (I.cne y c q) hoc,hcd⟩
 ·obtain ⟨v',oc,hoc,hcd⟩:=I.cell y c e
  exact ⟨v',oc,keep c oc (I.cne y c e) hoc,hcd⟩
 ·obtain ⟨e,q,ne,nf,d⟩:=I.pin p hp
  exact ⟨keep p.1 p.2 ne e,q,ne,nf,d⟩
 ·refine (I.hok b ob e).stay (fun c w' hc q=>keep c w' (fun z=>?_) q) (fun _ q=>q) fun _ _ q=>q
  have hf:=I.free
  rcases hc with z' | z'
  ·rw [← z',z] at e;rw [hf] at e;cases e
  ·rw [z,hf] at z';cases z'
end
def suiteEnds (i:Nat) (D:Ends):Ends:=⟨fun σ' H2=>D.nx (σ'.set i none) H2,D.rt,fun σ' H2=>D.bk (σ'.set i none) H2,fun σ' H2=>D.ct (σ'.set i none) H2⟩
end L2
namespace L2
open PySem PySem.Spec PyProof.Rows
section
variable {X:Cx}
def rInsert:V→List V→Hp→VK→Prop:=fun x vs H Q=>∃ l xs i y,x=.ref l∧vs=[.int i,y]∧H l=some (.lst xs)∧0≤i∧i≤xs.length∧xs.length < sizeLine∧Q .non (upd H l (.lst (xs.take i.toNat++[y]++xs.drop i.toNat)))
theorem mt_insert:MtM X "list.insert" rInsert:=by
 intro pins s σ H x vs v us Q I rx rv h
 obtain ⟨l,xs,i,y,rfl,rfl,hH,h0,h1,hz1,q⟩:=h
 cases rx
 obtain ⟨u,w',rfl,ru,rw'⟩:=rv.two
 obtain ⟨t,rfl⟩:=ru
 obtain ⟨z,its,n,r,hl,e⟩:=I.lstM hH
 have hfit:¬ (!Builtin.List.listFitsIndex i)=true:=by rw [fitsIndex_both (by omega) (by have:=line63;omega)];decide
 refine call_meets F.slot_list_insert ⟨_,e,rfl⟩ F.entry_list_insert (F.args_list_insert_3 _ _ _)
  (AutoSeq1.list_insert_list_int_val_1 l its.toArray n i t w' hfit (by rw [List.size_toArray];omega)) ⟨e,?_⟩
 refine ⟨.non,_,I.lset (its':=its.take i.toNat++[w']++its.drop i.toNat) hH e ?_ ((r.take _).append (.cons rw' .nil) |>.append (r.drop _)) ?_,rfl,q⟩
 ·have hk:(if i < 0 then (i+((its.toArray.size:Nat):Int)).toNat else min i.toNat its.toArray.size)=i.toNat:=by
   rw [if_neg (by omega),List.size_toArray];omega
  show (its.toArray.extract 0 (if i < 0 then (i+((its.toArray.size:Nat):Int)).toNat else min i.toNat its.toArray.size)).push w'++its.toArray.extract (if i < 0 then (i+((its.toArray.size:Nat):Int)).toNat else min i.toNat its.toArray.size)=_
  rw [hk]
  apply Array.ext'
  simp [List.extract_eq_take_drop]
  rw [List.take_of_length_le (by simp)]
 ·simp only [List.length_append,List.length_take,List.length_drop,List.length_singleton]
  omega
end
theorem pass0X {P:Program} {w:World} {X:Cx}:Passes (CXr P w) X E0:=fun _ _ _ _ _ _ _ h=>by
 obtain ⟨_,_,_,_,_,_,_,_,_,_,_,_,_,z⟩:=h
 exact z.elim
theorem roomH {k j:Nat} {A:Around} {h:Option Value} (r:Room k A) (hj:j≤k):RoomH j (A.mark h):=⟨by have:=r.dp;show A.depth+3 * j+5 < _;omega,by have:=r.un;show A.units+16 * j+200 < _;omega⟩
section
variable {K:PySem.W.Frag} {C C':Addr} {b:Bool}
theorem kit_sub (hne:C≠C') (c1:PySem.W.isClsIn K C'=true) (c2:PySem.W.typeIn K (.ref C')=some (.type "type")) (m:PySem.W.mroIn K C (.ref C')=some b):PySem.W.kitOne K (.ref C) (.ref C')=some b:=by
 unfold PySem.W.kitOne PySem.W.kitCls
 rw [if_neg (fun z=>hne (Value.ref.inj (beq_iff_eq.mp z)))]
 dsimp only
 have c1:(PySem.W.clsIn K C').isSome=true:=c1
 rw [c1,c2,if_pos (by decide +kernel)]
 exact m
theorem ne_mro (h1:PySem.W.mroIn K C (.ref C)=some true) (h2:PySem.W.mroIn K C (.ref C')=some false):C≠C':=fun z=>by rw [← z,h1] at h2;cases h2
theorem kit_val (m:PySem.W.mroIn K C (.type "ValueError")=some true):PySem.W.kitOne K (.ref C) (.type "ValueError")=some true:=by
 unfold PySem.W.kitOne PySem.W.kitCls
 rw [if_neg (by intro z;cases beq_iff_eq.mp z)]
 dsimp only
 rw [if_pos (by decide +kernel)]
 exact m
end
section
variable {E:XK} {C:Addr} {ta:TA} {D:Ends} {σ:St} {H:Hp} {Q:VK} {te:TE} {t:St→Hp→(Hp→Prop)→Prop} {R:Hp→Prop} {n i:Nat} {tb:XK→TS} {ts:TS}
theorem r_raise (h:ta σ H fun vs H1=>vs.length≤sizeLine∧E (.ref C) none H1):tRaise E C ta D σ H:=h
theorem r_joined (h:t σ H fun H'=>∀ x,Q (.str x) H'):tJoined t σ H Q:=h
theorem r_jstr (h:t σ H R):jStr t σ H R:=h
theorem r_jnil (h:R H):jNil σ H R:=h
theorem r_jint (h:te σ H fun x H1=>∃ i:Int,x=.int i∧i.natAbs.log2 < 64∧t σ H1 R):jInt te t σ H R:=h
end
theorem r_snx {D:Ends} {i:Nat} {σ:St} {H:Hp} (h:D.nx (σ.set i none) H):(suiteEnds i D).nx σ H:=h
theorem small_log {i:Int} (h0:-1000000≤i) (h1:i≤1000000):i.natAbs.log2 < 64:=by
 by_cases hz:i.natAbs=0
 ·rw [hz];decide
 ·rw [Nat.log2_lt hz]
  have:i.natAbs≤1000000:=by omega
  omega
end L2
namespace L2
open PySem PySem.Spec PyProof.Rows
open PySem.AutoSeq1 (wpAny_loadPart')
open PySem.MeetsSeq PySem.MeetsSeq2 PySem.MeetsSeq3 PySem.SeqAt
def lexGt:List Int→List Int→Bool
 | [],_=>false
 | _ :: _,[]=>true
 | a :: r,b :: t=>if a=b then lexGt r t else decide (b < a)
section
variable {X:Cx} (K:PySem.W.Frag)
end
theorem Same.upd_fresh {H H':Hp} {b:Addr} {o:HO} (h:Same H H') (hb:H b=Option.none):Same H (upd H' b o):=fun c u e=>by
 rw [upd_ne (ne_of_none e hb)];exact h c u e
theorem Room.units1 {k:Nat} {A:Around} (r:Room k A):A.units+1 < cLine:=by have:=r.units;omega
section
variable {X:Cx}
end
section
variable {X:Cx} (K:PySem.W.Frag)
theorem pe_bm0K {o:Expr} {to:TE} {name:Str} {apos cpos:Pos} {T id:String} {r:V→List V→Hp→VK→Prop} (pa:PlainAttrs T) (slot:Slot T name id) (hty:typeOf (.builtin id)=pure (.type "method_descriptor")) (hm:MtR X id r) (ho:PE X o to)
  (hbase:attributeBase o name X.env (eval o X.env)=eval o X.env:=by rfl) (hline:(apos.endLine == cpos.line)=true:=by rfl) (hK:X.K=K:=by rfl):PE X (.Call (.Attribute o name apos) [] [] cpos) (tBM0 K T r to):=by subst hK;exact pe_bm0 pa slot hty hm ho hbase hline
theorem sl_listK (hK:X.K=K:=by rfl):SlR X (rSlL K):=by subst hK;exact sl_list
end
section
variable {σ:St} {H:Hp} {Q:VK} {to td ty tv te:TE} {D:Ends} {trs:List (TE×TE)} {K:PySem.W.Frag} {T:String} {r:V→List V→Hp→VK→Prop}
theorem r_bm0 (h:to σ H fun x H1=>tyV K T x H1∧r x [] H1 Q):tBM0 K T r to σ H Q:=h
theorem r_dnotin (h:ty σ H fun y H1=>td σ H1 fun x H2=>∃ a o,x=.ref a∧DGet H2 a y o∧Q (.bl (!o.isSome)) H2):tDNotIn ty td σ H Q:=h
theorem r_dput (h:tv σ H fun v H1=>td σ H1 fun x H2=>ty σ H2 fun y H3=>∃ a H4,x=.ref a∧DPut H3 a y v H4∧D.nx σ H4):sDPut td ty tv D σ H:=h
theorem r_sl {r:V→Option Int→Option Int→Hp→VK→Prop} {tl th:TO} (h:te σ H fun x H1=>tl σ H1 fun l H2=>th σ H2 fun u H3=>r x l u H3 Q):tSl r te tl th σ H Q:=h
theorem r_nopart {Q:Option Int→Hp→Prop} (h:Q none H):tNoPart σ H Q:=h
theorem r_part {Q:Option Int→Hp→Prop} (h:te σ H fun x H1=>∃ i,x=.int i∧Q (some i) H1):tPart te σ H Q:=h
end
end L2
namespace My
open PySem L2
def later (a b:List Int):Bool:=if a.length≠b.length then decide (a.length > b.length) else lexGt a b
def slt (a b:List Int):Prop:=later b a=true
theorem lexGt_snoc:∀ {a b:List Int} {x y:Int},a.length=b.length→lexGt a b=true→lexGt (a++[x]) (b++[y])=true
 | [],[],_,_,_,h=>by simp [lexGt] at h
 | a :: r,b :: t,x,y,hl,h=>by
  simp only [List.cons_append,lexGt] at h ⊢
  by_cases e:a=b
  ·rw [if_pos e] at h ⊢;exact lexGt_snoc (by simpa using hl) h
  ·rw [if_neg e] at h ⊢;exact h
 | [],_ :: _,_,_,hl,_=>by simp at hl
 | _ :: _,[],_,_,hl,_=>by simp at hl
theorem lexGt_last:∀ {a:List Int} {x y:Int},y < x→lexGt (a++[x]) (a++[y])=true
 | [],x,y,h=>by simp only [List.nil_append,lexGt];rw [if_neg (by omega)];simpa using h
 | a :: r,x,y,h=>by rw [List.cons_append,List.cons_append];unfold lexGt;rw [if_pos rfl];exact lexGt_last h
theorem lexGt_irrefl:∀ a:List Int,lexGt a a=false
 | []=>rfl
 | a :: r=>by unfold lexGt;rw [if_pos rfl];exact lexGt_irrefl r
theorem later_irrefl (a:List Int):later a a=false:=by unfold later;rw [if_neg (by simp)];exact lexGt_irrefl a
theorem slt_nil (u:List Int) (x:Int):slt [] (u++[x]):=by
 unfold slt later;rw [if_pos (by simp)];simp
theorem slt_snoc {u v:List Int} (h:slt u v) (x y:Int):slt (u++[x]) (v++[y]):=by
 unfold slt later at h ⊢
 by_cases e:v.length=u.length
 ·rw [if_neg (by simp [e])] at h;rw [if_neg (by simp [e])];exact lexGt_snoc e h
 ·rw [if_pos e] at h;rw [if_pos (by simp [e])];have:=of_decide_eq_true h;simp;omega
theorem slt_last (u:List Int) {x y:Int} (h:x < y):slt (u++[x]) (u++[y]):=by
 unfold slt later;rw [if_neg (by simp)];exact lexGt_last h
theorem nodup_le:∀ (n:Nat) (l:List Nat),l.Nodup→(∀ x∈l,x < n)→l.length≤n
 | 0,l,_,h=>by
  cases l with
  | nil=>simp
  | cons a r=>exact absurd (h a List.mem_cons_self) (Nat.not_lt_zero _)
 | n+1,l,hn,h=>by
  by_cases hm:n∈l
  ·have h1:=nodup_le n (l.erase n) (hn.erase n) fun x hx=>by
    have h2:=(hn.mem_erase_iff.mp hx)
    have:=h x h2.2
    have:=h2.1
    omega
   rw [List.length_erase_of_mem hm] at h1
   omega
  ·have:=nodup_le n l hn fun x hx=>by
    have h1:=h x hx
    have h2:x≠n:=fun z=>hm (z ▸ hx)
    omega
   omega
end My
namespace L2
open PySem PySem.Spec PyProof.Rows
section
variable {X:Cx} {pins:List (Addr×Obj)} {σ:St} {H:Hp} {s:Shared} {scope:Scope} {cl:List (Str×Addr)} {C:Addr} {N':List Str} {ex:List Addr} {caps:List (Option Nat)}
end
section
variable {X:Cx} {scope:Scope} {N':List Str} {caps:List (Option Nat)} {elt iter tg:Expr} {pos:Pos} {wi:TI} {g:TG} {te:TE}
end
end L2
namespace L2
open PySem PySem.Spec PyProof.Rows
structure PSsO (X:Cx) (b:List Stmt) (t:TS):Prop where
 out:PSs X b t
theorem exO {X:Cx} {b:List Stmt} {t:TS} {R:TS→Prop} (h:PSsO X b t) (r:R t):∃ t,PSs X b t∧R t:=⟨t,h.out,r⟩
end L2
namespace My
open PySem L2
theorem lexGt_trans:∀ {a b c:List Int},lexGt a b=true→lexGt b c=true→lexGt a c=true
 | [],_,_,h,_=>by simp [lexGt] at h
 | _ :: _,[],_,_,h=>by simp [lexGt] at h
 | _ :: _,_ :: _,[],_,_=>rfl
 | a :: r,b :: t,c :: u,h1,h2=>by
  unfold lexGt at h1 h2 ⊢
  by_cases e1:a=b
  ·rw [if_pos e1] at h1
   by_cases e2:b=c
   ·rw [if_pos e2] at h2;rw [if_pos (e1.trans e2)];exact lexGt_trans h1 h2
   ·rw [if_neg e2] at h2;rw [if_neg (by rw [e1];exact e2),e1];exact h2
  ·rw [if_neg e1] at h1
   have h1:=of_decide_eq_true h1
   by_cases e2:b=c
   ·rw [← e2,if_neg e1];exact decide_eq_true h1
   ·rw [if_neg e2] at h2
    have h2:=of_decide_eq_true h2
    rw [if_neg (by omega)];exact decide_eq_true (by omega)
theorem slt_trans {a b c:List Int} (h1:slt a b) (h2:slt b c):slt a c:=by
 unfold slt later at h1 h2 ⊢
 by_cases e1:b.length=a.length
 ·rw [if_neg (by simp [e1])] at h1
  by_cases e2:c.length=b.length
  ·rw [if_neg (by simp [e2])] at h2;rw [if_neg (by simp [e1,e2])];exact lexGt_trans h2 h1
  ·rw [if_pos e2] at h2;rw [if_pos (by omega)];have:=of_decide_eq_true h2;exact decide_eq_true (by omega)
 ·rw [if_pos e1] at h1
  have h1:=of_decide_eq_true h1
  by_cases e2:c.length=b.length
  ·rw [if_pos (by omega)];exact decide_eq_true (by omega)
  ·rw [if_pos e2] at h2;have h2:=of_decide_eq_true h2;rw [if_pos (by omega)];exact decide_eq_true (by omega)
theorem slt_irrefl (a:List Int):¬ slt a a:=by unfold slt;rw [later_irrefl];decide
theorem slt_asymm {a b:List Int} (h:slt a b):¬ slt b a:=fun h2=>slt_irrefl a (slt_trans h h2)
theorem slt_prefix (u:List Int) (x:Int):slt u (u++[x]):=by
 unfold slt later;rw [if_pos (by simp)];exact decide_eq_true (by simp)
def sle (a b:List Int):Prop:=a=b∨slt a b
theorem sle_slt {a b c:List Int} (h1:sle a b) (h2:slt b c):slt a c:=by
 rcases h1 with rfl | h1
 ·exact h2
 ·exact slt_trans h1 h2
theorem sle_trans {a b c:List Int} (h1:sle a b) (h2:sle b c):sle a c:=by
 rcases h2 with rfl | h2
 ·exact h1
 ·exact .inr (sle_slt h1 h2)
theorem sle_snoc {a b:List Int} (h:sle a b) (x:Int):sle (a++[x]) (b++[x]):=by
 rcases h with rfl | h
 ·exact .inl rfl
 ·exact .inr (slt_snoc h x x)
section
variable {κ:Type} [DecidableEq κ]
def walkG (st:κ→Int→κ) (k0:κ) (w:List Int):κ:=w.foldl st k0
theorem walkG_snoc (st:κ→Int→κ) (k0:κ) (w:List Int) (x:Int):walkG st k0 (w++[x])=st (walkG st k0 w) x:=by
 unfold walkG;rw [List.foldl_append];rfl
structure BIG (st:κ→Int→κ) (k0:κ) (d:Int) (at' j:Nat) (L:List (κ×List Int)):Prop where
 head:L[0]?=some (k0,[])
 ok:∀ e∈L,WordOk d e.2∧walkG st k0 e.2=e.1
 nd:(L.map Prod.fst).Nodup
 par:∀ (k:Nat) (e:(κ×List Int)),L[k]?=some e→k=0∨∃ (p:Nat) (q:(κ×List Int)) (x:Nat),p < k∧L[p]?=some q∧e.2=q.2++[(x:Int)]∧(p < at'∨(p=at'∧x < j))
 inc:∀ (i k:Nat) (e f:(κ×List Int)),i < k→L[i]?=some e→L[k]?=some f→slt e.2 f.2
 cov:∀ (p:Nat) (q:(κ×List Int)) (x:Nat),L[p]?=some q→(x:Int) < d→(p < at'∨(p=at'∧x < j))→∃ e∈L,e.1=walkG st k0 (q.2++[(x:Int)])∧(e.2=q.2++[(x:Int)]∨slt e.2 (q.2++[(x:Int)]))
def hasKeyG (L:List (κ×List Int)) (r:κ):Bool:=L.any fun e=>decide (e.1=r)
theorem hasKeyG_iff {L:List (κ×List Int)} {r:κ}:hasKeyG L r=true↔∃ e∈L,e.1=r:=by simp [hasKeyG]
def addDoorG (L:List (κ×List Int)) (w:List Int) (j:Nat) (r:κ):List (κ×List Int):=if hasKeyG L r=true then L else L++[(r,w++[(j:Int)])]
theorem BIG.start (st:κ→Int→κ) (k0:κ) (d:Int):BIG st k0 d 0 0 [(k0,[])] where
 head:=rfl
 ok:=fun e he=>by rw [List.mem_singleton.mp he];exact ⟨(fun x hx=>by cases hx),rfl⟩
 nd:=by simp
 par:=fun k e h=>by
  cases k with
  | zero=>exact .inl rfl
  | succ k=>simp at h
 inc:=fun i k e f hik hi hk=>by
  cases k with
  | zero=>omega
  | succ k=>simp at hk
 cov:=fun p q x _ _ h=>by omega
theorem BIG.new {st:κ→Int→κ} {k0:κ} {d:Int} {at' j:Nat} {L:List (κ×List Int)} (B:BIG st k0 d at' j L) {q:(κ×List Int)} (hq:L[at']?=some q):∀ e∈L,slt e.2 (q.2++[(j:Int)]):=fun e he=>by
 obtain ⟨k,hk⟩:=List.getElem?_of_mem he
 rcases B.par k e hk with rfl | ⟨p,q',x,hp,hq',hw,hx⟩
 ·rw [B.head] at hk;cases hk;exact slt_nil _ _
 ·rw [hw]
  rcases hx with hx | ⟨rfl,hx⟩
  ·exact slt_snoc (B.inc p at' q' q hx hq' hq) _ _
  ·rw [hq] at hq';cases hq';exact slt_last _ (by omega)
theorem BIG.add {st:κ→Int→κ} {k0:κ} {d:Int} {at' j:Nat} {L:List (κ×List Int)} (B:BIG st k0 d at' j L) {q:(κ×List Int)} (hq:L[at']?=some q) (hj:(j:Int) < d) {r:κ} (hr:r=st q.1 j):BIG st k0 d at' (j+1) (addDoorG L q.2 j r):=by
 have hqw:=B.ok q (List.mem_of_getElem? hq)
 have hrw:walkG st k0 (q.2++[(j:Int)])=r:=by rw [walkG_snoc,hqw.2,hr]
 unfold addDoorG
 by_cases hk:hasKeyG L r=true
 ·rw [if_pos hk]
  refine ⟨B.head,B.ok,B.nd,fun k e h=>?_,B.inc,fun p q' x h1 h2 h3=>?_⟩
  ·rcases B.par k e h with h | ⟨p,q',x,a1,a2,a3,a4⟩
   ·exact .inl h
   ·exact .inr ⟨p,q',x,a1,a2,a3,by omega⟩
  ·by_cases hn:p < at'∨(p=at'∧x < j)
   ·exact B.cov p q' x h1 h2 hn
   ·have e1:p=at':=by omega
    have e2:x=j:=by omega
    subst e1 e2
    rw [hq] at h1;cases h1
    obtain ⟨e,he,hee⟩:=hasKeyG_iff.mp hk
    exact ⟨e,he,by rw [hrw];exact hee,.inr (B.new hq e he)⟩
 ·rw [if_neg hk]
  have hnk:∀ e∈L,e.1≠r:=fun e he z=>hk (hasKeyG_iff.mpr ⟨e,he,z⟩)
  have h0:0 < L.length:=(List.getElem?_eq_some_iff.mp B.head).1
  have get_old:∀ {k:Nat} {e:(κ×List Int)},L[k]?=some e→(L++[(r,q.2++[(j:Int)])])[k]?=some e:=fun {k e} h=>by
   rw [List.getElem?_append_left (List.getElem?_eq_some_iff.mp h).1];exact h
  have get_inv:∀ {k:Nat} {e:(κ×List Int)},(L++[(r,q.2++[(j:Int)])])[k]?=some e→(k < L.length∧L[k]?=some e)∨(k=L.length∧e=(r,q.2++[(j:Int)])):=fun {k e} h=>by
   rcases Nat.lt_or_ge k L.length with hl | hl
   ·rw [List.getElem?_append_left hl] at h;exact .inl ⟨hl,h⟩
   ·rw [List.getElem?_append_right hl] at h
    have hz:k - L.length=0:=by
     have:=(List.getElem?_eq_some_iff.mp h).1
     simp at this;omega
    rw [hz] at h
    simp at h
    exact .inr ⟨by omega,h.symm⟩
  refine ⟨get_old B.head,fun e he=>?_,?_,fun k e h=>?_,fun i k e f hik hi hk=>?_,fun p q' x h1 h2 h3=>?_⟩
  ·rcases List.mem_append.mp he with he | he
   ·exact B.ok e he
   ·rw [List.mem_singleton.mp he]
    refine ⟨fun x hx=>?_,hrw⟩
    rcases List.mem_append.mp hx with hx | hx
    ·exact hqw.1 x hx
    ·rw [List.mem_singleton.mp hx];omega
  ·rw [List.map_append,List.map_singleton]
   refine List.nodup_append.mpr ⟨B.nd,by simp,fun a ha b hb=>?_⟩
   rw [List.mem_singleton.mp hb]
   obtain ⟨e,he,rfl⟩:=List.mem_map.mp ha
   exact hnk e he
  ·rcases get_inv h with ⟨hl,h⟩ | ⟨hl,rfl⟩
   ·rcases B.par k e h with h | ⟨p,q',x,a1,a2,a3,a4⟩
    ·exact .inl h
    ·exact .inr ⟨p,q',x,a1,get_old a2,a3,by omega⟩
   ·exact .inr ⟨at',q,j,by rw [hl];exact (List.getElem?_eq_some_iff.mp hq).1,get_old hq,rfl,by omega⟩
  ·rcases get_inv hk with ⟨hl,hk⟩ | ⟨hl,rfl⟩
   ·rcases get_inv hi with ⟨_,hi⟩ | ⟨hl',_⟩
    ·exact B.inc i k e f hik hi hk
    ·omega
   ·rcases get_inv hi with ⟨_,hi⟩ | ⟨hl',_⟩
    ·exact B.new hq e (List.mem_of_getElem? hi)
    ·omega
  ·rcases get_inv h1 with ⟨_,h4⟩ | ⟨hl,_⟩
   ·clear h1
    have h1:=h4
    by_cases hn:p < at'∨(p=at'∧x < j)
    ·obtain ⟨e,he,e1,e2⟩:=B.cov p q' x h1 h2 hn
     exact ⟨e,List.mem_append_left _ he,e1,e2⟩
    ·have e1:p=at':=by omega
     have e2:x=j:=by omega
     subst e1 e2
     rw [hq] at h1;cases h1
     exact ⟨(r,q.2++[(x:Int)]),by simp,hrw.symm,.inl rfl⟩
   ·have:=(List.getElem?_eq_some_iff.mp hq).1
    omega
theorem BIG.next {st:κ→Int→κ} {k0:κ} {d:Int} {at':Nat} {L:List (κ×List Int)} (B:BIG st k0 d at' d.toNat L):BIG st k0 d (at'+1) 0 L :=
 ⟨B.head,B.ok,B.nd,fun k e h=>by
  rcases B.par k e h with h | ⟨p,q',x,a1,a2,a3,a4⟩
  ·exact .inl h
  ·exact .inr ⟨p,q',x,a1,a2,a3,by omega⟩,B.inc,fun p q x h1 h2 h3=>B.cov p q x h1 h2 (by omega)⟩
theorem BIG.wlen {st:κ→Int→κ} {k0:κ} {d:Int} {at' j:Nat} {L:List (κ×List Int)} (B:BIG st k0 d at' j L):∀ (n k:Nat) (e:(κ×List Int)),k≤n→L[k]?=some e→e.2.length≤k
 | 0,k,e,hk,h=>by
  have:k=0:=by omega
  subst this
  rw [B.head] at h;cases h;exact Nat.le_refl _
 | n+1,k,e,hk,h=>by
  rcases B.par k e h with rfl | ⟨p,q,x,hp,hq,hw,_⟩
  ·rw [B.head] at h;cases h;exact Nat.le_refl _
  ·have:=B.wlen n p q (by omega) hq
   rw [hw,List.length_append,List.length_singleton];omega
theorem BIG.below {st:κ→Int→κ} {k0:κ} {d:Int} {at' j:Nat} {L:List (κ×List Int)} (B:BIG st k0 d at' j L) (e:κ×List Int) (he:L[at']?=some e) :
  ∀ (n:Nat) (w:List Int),w.length≤n→WordOk d w→slt w e.2→∃ (i:Nat) (f:κ×List Int),i < at'∧L[i]?=some f∧f.1=walkG st k0 w∧sle f.2 w:=by
 have ahead:∀ {f:κ×List Int},f∈L→slt f.2 e.2→∃ i,i < at'∧L[i]?=some f:=fun {f} hf hs=>by
  obtain ⟨i,hi⟩:=List.getElem?_of_mem hf
  rcases Nat.lt_or_ge i at' with h | h
  ·exact ⟨i,h,hi⟩
  ·rcases Nat.eq_or_lt_of_le h with h | h
   ·subst h;rw [he] at hi;cases hi;exact absurd hs (slt_irrefl _)
   ·exact absurd hs (slt_asymm (B.inc at' i e f h he hi))
 have base:slt [] e.2→∃ (i:Nat) (f:κ×List Int),i < at'∧L[i]?=some f∧f.1=walkG st k0 []∧sle f.2 []:=fun hs=>by
  obtain ⟨i,hi,hL⟩:=ahead (List.mem_of_getElem? B.head) hs
  exact ⟨i,_,hi,hL,rfl,.inl rfl⟩
 intro n
 induction n with
 | zero =>
  intro w hw ok hs
  have:w=[]:=List.length_eq_zero_iff.mp (by omega)
  subst this
  exact base hs
 | succ n ih =>
  intro w hw ok hs
  by_cases hn:w=[]
  ·subst hn;exact base hs
  ·obtain ⟨u,x,rfl⟩:∃ u x,w=u++[x]:=⟨w.dropLast,w.getLast hn,(List.dropLast_concat_getLast hn).symm⟩
   have oku:WordOk d u:=fun y hy=>ok y (List.mem_append_left _ hy)
   obtain ⟨x0,x1⟩:=ok x (by simp)
   obtain ⟨i,f,hi,hL,hk,hle⟩:=ih u (by simp at hw;omega) oku (slt_trans (slt_prefix u x) hs)
   obtain ⟨g,hg,g1,g2⟩:=B.cov i f x.toNat hL (by omega) (.inl hi)
   rw [Int.toNat_of_nonneg x0] at g1 g2
   have g2:sle g.2 (u++[x]):=sle_trans g2 (sle_snoc hle x)
   obtain ⟨m,hm,hLm⟩:=ahead hg (sle_slt g2 hs)
   refine ⟨m,g,hm,hLm,?_,g2⟩
   rw [g1,walkG_snoc,walkG_snoc,(B.ok f (List.mem_of_getElem? hL)).2,hk]
theorem BIG.all {st:κ→Int→κ} {k0:κ} {d:Int} {L:List (κ×List Int)} (B:BIG st k0 d L.length 0 L):∀ (n:Nat) (w:List Int),w.length≤n→WordOk d w→∃ f∈L,f.1=walkG st k0 w∧sle f.2 w:=by
 intro n
 induction n with
 | zero =>
  intro w hw ok
  have:w=[]:=List.length_eq_zero_iff.mp (by omega)
  subst this
  exact ⟨_,List.mem_of_getElem? B.head,rfl,.inl rfl⟩
 | succ n ih =>
  intro w hw ok
  by_cases hn:w=[]
  ·subst hn;exact ⟨_,List.mem_of_getElem? B.head,rfl,.inl rfl⟩
  ·obtain ⟨u,x,rfl⟩:∃ u x,w=u++[x]:=⟨w.dropLast,w.getLast hn,(List.dropLast_concat_getLast hn).symm⟩
   have oku:WordOk d u:=fun y hy=>ok y (List.mem_append_left _ hy)
   obtain ⟨x0,x1⟩:=ok x (by simp)
   obtain ⟨f,hf,hk,hle⟩:=ih u (by simp at hw;omega) oku
   obtain ⟨i,hi⟩:=List.getElem?_of_mem hf
   obtain ⟨g,hg,g1,g2⟩:=B.cov i f x.toNat hi (by omega) (.inl (List.getElem?_eq_some_iff.mp hi).1)
   rw [Int.toNat_of_nonneg x0] at g1 g2
   refine ⟨g,hg,?_,sle_trans g2 (sle_snoc hle x)⟩
   rw [g1,walkG_snoc,walkG_snoc,(B.ok f hf).2,hk]
end
end My
namespace L2
open PySem PySem.Spec PyProof.Rows
def tDispT1 (tk tv:TE):TE:=fun σ H Q=>∀ p,H p=none→tk σ (upd H p (.dT [])) fun x H1=>tv σ H1 fun y H2=>∃ b ks,x=.ref b∧H2 b=some (.tup (ks.map kV))∧H2 p=some (.dT [])∧Q (.ref p) (upd H2 p (.dT [(ks,y)]))
theorem pe_dispT1 {X:Cx} {pos:Pos} {k v:Expr} {tk tv:TE} (hu:X.A.units+1 < cLine) (hk:PE X k tk) (hv:PE X v tv):PE X (.Dict [some k] [v] pos) (tDispT1 tk tv):=by
 intro pins s σ H Q I q
 rw [arm_eval_Dict,zip_pairTrees [some k] [v] X.env pos rfl rfl,dictDisplay_pairs _ (by simp [pairTrees]) (by simp [pairTrees])]
 have hn:=I.hok.fresh (Nat.le_refl s.heap.objs.size)
 have I1:=I.laid (a:=s.heap.objs.size) (o:=.dT []) (h':=s.heap.push { cls:=.type "dict",data:=.dict #[] }) (t':=s.toks) (fun _ _ q=>Heap.get?_push_of_some _ q) (Nat.le_refl _) (dt_empty s.heap I.big)
 refine wpAny_bind (wpAny_standAt (wpAny_bind ?_))
 unfold subDict
 refine wpAny_bind (wpAny_alloc ?_)
 refine wpAny_bind (wpAny_holding ?_)
 rw [if_pos (by simp [pairTrees])]
 refine wpAny_bind (evalPairs_cons (thn (hk pins _ σ _ _ I1 (q _ hn)) fun kv s1 ⟨x,H1,I2,rx,q1⟩=>?_))
 refine wpAny_bind (thn (hv pins s1 σ H1 _ I2 q1) fun vv s2 ⟨y,H2,I3,ry,b,ks,ex,hb,hp,q2⟩=>wpAny_bind (wpAny_standAt (wpAny_pure (evalPairs_nil ?_))))
 subst ex
 cases (show kv=Value.ref b from rx)
 obtain ⟨z,hd,xs,rel,dd⟩:=dt_of I3.hok hp
 cases rel
 refine wpAny_holding (wpAny_bind ?_)
 rw [List.forIn_cons]
 refine wpAny_bind (wpAny_bind (wpAny_dictSet_heap (hsz:=Nat.zero_le _) ?room (key_of I3.hok hb) dd fun h' dd' hs=>?fin))
 case fin =>
  refine wpAny_pure ?_
  dsimp only
  rw [List.forIn_nil]
  refine wpAny_pure (wpAny_pure (wpAny_pure (wpAny_pure ?_)))
  obtain ⟨q',es,ep,hq,h2,h3,h4,_,h5⟩:=dd'
  have hI:=d_write (t':=s2.toks+(tupleKind (mixKind X.prog X.w)).draws ks) I3 (by rw [hp];exact True.intro) hs ⟨q',hq⟩ (ob:=.dT [(ks,y)]) ⟨(show 1≤sizeLine by decide),hd,[(ks,b,vv)],.cons ⟨rfl,by rw [upd_ne (ne_of hb hp (fun z=>nomatch z))];exact hb,ry⟩ .nil,q',es,ep,hq,h2,h3,h4,h5⟩
  exact ⟨.ref s.heap.objs.size,_,hI,rfl,q2⟩
 case room=>exact (show X.A.units < cLine by omega)
theorem pssO_cons {X:Cx} {st:Stmt} {rest:List Stmt} {t u:TS} (h1:PS X st t) (h2:PSsO X rest u):PSsO X (st :: rest) (tSeq t u):=⟨pss_cons h1 h2.out⟩
theorem pssO_consT {X:Cx} {i:Nat} {x:Str} {k v:Expr} {pos pos' spos:Pos} {tk tv:TE} {rest:List Stmt} {u:TS} (hu:X.A.units+1 < cLine) (hN:X.N.Nodup) (hi:X.N[i]?=some x) (hx:Loc X.env.scope x) (hk:PE X k tk) (hv:PE X v tv) (h2:PSs X rest u)
  (hf:X.fn x=true∨X.env.scope.names.lookup x=some .local:=by first | exact .inl rfl | exact .inr rfl | assumption)
  (hsw:swapsWith (.Dict [some k] [v] pos) (some (.Name x pos')) spos.line X.env=pure false:=by rfl) :
  PSsO X (.Assign [.Name x pos'] (.Dict [some k] [v] pos) spos :: rest) (tSeq (tAsg (tDispT1 tk tv) (gName i)) u) :=
 ⟨pss_cons (ps_set hN hi hx (pe_dispT1 hu hk hv)) h2⟩
section
variable {σ:St} {H:Hp} {Q:VK} {tk tv:TE}
theorem r_dispT (h:∀ p,H p=none→tk σ (upd H p (.dT [])) fun x H1=>tv σ H1 fun y H2=>∃ b ks,x=.ref b∧H2 b=some (.tup (ks.map kV))∧H2 p=some (.dT [])∧Q (.ref p) (upd H2 p (.dT [(ks,y)]))):tDispT1 tk tv σ H Q:=h
end
end L2
namespace L2
open PySem PySem.Spec PyProof.Rows
def jBl (te:TE) (t:St→Hp→(Hp→Prop)→Prop):St→Hp→(Hp→Prop)→Prop:=fun σ H Q=>te σ H fun x H1=>∃ b:Bool,x=.bl b∧t σ H1 Q
theorem pj_bl {X:Cx} {e:Expr} {es:List Expr} {te:TE} {t:St→Hp→(Hp→Prop)→Prop} {pos:Pos} (he:PE X e te) (hr:PJ X es t):PJ X (.FormattedValue e (-1) none pos :: es) (jBl te t):=by
 intro out pins s σ H Q hz I h
 refine joinParts_cons (FormattedValue_plain (thn (he pins s σ H _ I h) fun v s1 hh=>?_))
 obtain ⟨x,H1,I1,r,b,rfl,h1⟩:=hh
 have hv:v=Value.bool b:=r
 subst hv
 rw [List.length_cons] at hz
 refine wpAny_formatField_bool ?_
 have h3:((if b then "True" else "False":Str)).length≤5:=by cases b <;> decide +kernel
 have hl:(out++(if b then "True" else "False":Str)).length=out.length+((if b then "True" else "False":Str)).length:=strLen_append ..
 exact ⟨by rw [hl];omega,hr _ pins _ σ H1 Q (by rw [hl];omega) ((I1.tok _).tok _) h1⟩
theorem r_jbl {σ:St} {H:Hp} {te:TE} {t:St→Hp→(Hp→Prop)→Prop} {R:Hp→Prop} (h:te σ H fun x H1=>∃ b:Bool,x=.bl b∧t σ H1 R):jBl te t σ H R:=h
def ItemsAt (v d:Addr):Heap→Prop:=fun h=>h.IsItemsView v d
def rItems:V→List V→Hp→VK→Prop:=fun x vs H Q=>∃ d,x=.ref d∧vs=[]∧IsD H d∧∀ v,H v=none→Q (.ref v) (upd H v (.ext (ItemsAt v d)))
theorem my_items {prog:Program} {w:World} (d:Addr) (hd:(d == sysModules)=false):MeetsIn prog w (Builtin.«dict.items» ⟨[.ref d],[]⟩) (fun _ R s=>s.TypeIs (.ref d) "dict" ∧
   R (.ok (.ret (.ref s.heap.objs.size))) { s with heap:=s.heap.push { cls:=.type "dict_items",data:=.fields #[.ref d] } }) :=
 .of_wp fun A R s ⟨ty,h⟩=>by
  unfold Builtin.«dict.items»;refine wpAny_bind ?_
  unfold Builtin.Dict.noArgs;refine wpAny_bind (wpAny_notOrdered_dict ty ?_)
  show wpAny _ _ (pure d) _ _ s;refine wpAny_pure ?_
  show wpAny _ _ (Builtin.Dict.showsAll d >>= _) _ _ s;unfold Builtin.Dict.showsAll
  rw [if_neg (by rw [hd];decide)];refine wpAny_bind (wpAny_pure ?_)
  exact wpAny_bind (wpAny_newObj_type (wpAny_pure ⟨_,rfl,h⟩))
section
variable {X:Cx}
theorem mt_items:MtR X "dict.items" rItems:=by
 intro pins s σ H x vs v us Q I rx rv h
 obtain ⟨d,rfl,rfl,hD,q⟩:=h
 cases rx
 have hus:=rv.zero
 subst hus
 obtain ⟨ty,_,hd⟩:=isD_at I hD
 refine call_meetsIn PySem.F.slot_dict_items ty PySem.F.entry_dict_items (PySem.F.args_dict_items_1 _) (my_items d hd) ⟨ty,?_⟩
 refine ⟨.ref s.heap.objs.size,_,I.laid (t':=s.toks) (fun _ _ q=>Heap.get?_push_of_some _ q) (Nat.le_refl _) ?_,rfl,q _ I.fresh⟩
 have φ:ItemsAt s.heap.objs.size d (s.heap.push { cls:=.type "dict_items",data:=.fields #[.ref d] }):=⟨_,Heap.get?_push_size _ rfl,rfl,rfl⟩
 exact ⟨φ,⟨_,Heap.get?_push_size _ rfl⟩,fun h1 h2 ⟨o',y1,y2,y3⟩ k=>⟨o',k o' y1,y2,y3⟩⟩
end
section
variable {prog:Program} {w:World} {A:Around} {E:Value→Shared→Prop} {s:Shared} {it d:Addr} {i ep:Nat} {es:Array DictEntry} {od:Obj} {c1 c2:Value}
theorem my_iter {v:Addr} {Q:Value→Shared→Prop} (hv:s.heap.IsItemsView v d) (hg:s.heap.get? d=some od) (hdt:od.data=.dict es ep)
  (hQ:Q (.ref s.heap.objs.size) { s with heap:=s.heap.push { cls:=.type "dict_itemiterator",data:=.fields #[.none,.bool false,.ref d,.int 0 0,.int es.size 0,.int ep 0,.none,.none] } }):wpAny (model prog w) A (pyIter (.ref v)) Q E s:=by
 obtain ⟨o',g',c',d'⟩:=id hv
 refine wpAny_pyIter_slot hv.typeIs PySem.F.slot_dict_items_iter (wpAny_call_entry PySem.F.slot_dict_items_iter hv.typeIs PySem.F.entry_dict_items_iter ?_ (PySem.F.args_dict_items_iter_1 _))
 unfold Builtin.«dict_items.__iter__»;refine wpAny_bind (wpAny_pure (wpAny_bind ?_))
 unfold Builtin.Dict_items.dictOf;refine wpAny_bind (wpAny_field g' d' (x:=.ref d) rfl (wpAny_pure (wpAny_bind ?_)))
 unfold Builtin.Dict_items.newIterator;refine wpAny_bind (wpAny_dictEntries hg hdt (wpAny_bind (wpAny_dictEpoch hg hdt ?_)))
 simp only [show Builtin.Dict_items.ownsTuple "dict_itemiterator"=true by decide,if_true]
 refine wpAny_newObj_type (wpAny_pure ⟨_,rfl,"dict_itemiterator",_,⟨_,Heap.get?_push_size _ rfl,rfl⟩,PySem.F.slot_dict_itemiterator_next.lookup,?_⟩) (by
  simp only [sizeOk,Builtin.Dict_items.ownedTupleFields,List.size_toArray,List.length_append,List.length_cons,List.length_nil,sizeLine_eq];omega)
 simpa [rawInt,Builtin.Dict_items.ownedTupleFields] using hQ
theorem my_next {Q:Option Value→Shared→Prop} (hit:IsItemIter s.heap it d i es.size ep c1 c2) (hg:s.heap.get? d=some od) (hdt:od.data=.dict es ep) (hlt:i < es.size)
  (hQ:∀ h',IsItemIterOut h' it d (i+1) es.size ep es[i].key es[i].val s.heap.objs.size→h'.get? s.heap.objs.size=some { cls:=.type "tuple",data:=.seq #[es[i].key,es[i].val] }→h'.objs.size=s.heap.objs.size+1 →
   (∀ b o,b≠it→s.heap.get? b=some o→h'.get? b=some o)→Q (some (.ref s.heap.objs.size)) { s with heap:=h' }):wpAny (model prog w) A (pyNext (.ref it)) Q E s:=by
 obtain ⟨hp,g,dr,tk,os⟩:=s
 have ty:Shared.TypeIs ⟨hp,g,dr,tk,os⟩ (.ref it) "dict_itemiterator":=⟨_,hit,rfl⟩
 unfold pyNext
 refine wpAny_bind (wpAny_attempt (wpAny_callSpecial?_slot (name:=Str.ofString "__next__") ty PySem.F.slot_dict_itemiterator_next (wpAny_call_entry PySem.F.slot_dict_itemiterator_next ty PySem.F.entry_dict_itemiterator_next ?_ (PySem.F.args_dict_itemiterator_next_1 _))))
 refine wpAny_bind (wpAny_pure (wpAny_bind (wpAny_bind ?_)))
 first | refine wpAny_bind (wpAny_typeNameOfWhole_itemiter ty (wpAny_pure ?_)) | refine wpAny_bind (wpAny_typeNameOf_itemiter ty (wpAny_pure ?_))
 refine wpAny_bind (wpAny_fieldsOf hit rfl ?_);simp only [show Builtin.Dict_items.ownsTuple "dict_itemiterator"=true by decide,if_true]
 show wpAny _ _ (if (Value.ref d == Value.none)=true then _ else _) _ _ _;rw [if_neg (show ¬ ((Value.ref d == Value.none)=true) by exact Bool.false_ne_true)]
 refine wpAny_bind (wpAny_pure (wpAny_bind (wpAny_dictEntries hg hdt ?_)));rw [if_neg (by simp)]
 refine wpAny_bind (wpAny_pure (wpAny_bind (wpAny_dictEpoch hg hdt ?_)));rw [if_neg (by simp)];refine wpAny_pure ?_
 simp only [show ¬ ((i:Int) < 0) by omega,if_false,Int.toNat_natCast,Array.getElem?_eq_getElem hlt];refine wpAny_bind ?_
 first | refine wpAny_bind (wpAny_typeNameOfWhole_itemiter ty (wpAny_pure ?_)) | refine wpAny_bind (wpAny_typeNameOf_itemiter ty (wpAny_pure ?_))
 refine wpAny_bind (wpAny_isOneOf_itemiter ty ?_);show wpAny _ _ (setField (.ref it) 3 (rawInt ((i:Int)+1)) >>= _) _ _ ⟨hp,g,dr,tk,os⟩
 refine wpAny_bind (wpAny_setField_rec hit (by simp) fun u1 f1 k1=>?_);replace k1:Heap.SameBut it hp u1:=k1
 replace f1:IsItemIter u1 it d (i+1) es.size ep c1 c2:=by
  have e:((i+1:Nat):Int)=(i:Int)+1:=by omega
  unfold IsItemIter;rw [e];simpa [rawInt] using f1
 have ty1:Shared.TypeIs ⟨u1,g,dr,tk,os⟩ (.ref it) "dict_itemiterator":=⟨_,f1,rfl⟩
 refine wpAny_bind (wpAny_holding (wpAny_bind (wpAny_isOneOf_itemiter ty1 (wpAny_bind (wpAny_isOneOf_itemiter ty1 ?_)))))
 show wpAny _ _ (Builtin.Dict_items.pairFromOwner (.ref it) 6 es[i].key es[i].val) _ _ ⟨u1,g,dr,tk,os⟩;unfold Builtin.Dict_items.pairFromOwner
 refine wpAny_bind (wpAny_newTuple ?_);have f2:IsItemIter (u1.push { cls:=.type "tuple",data:=.seq #[es[i].key,es[i].val] }) it d (i+1) es.size ep c1 c2:=Heap.get?_push_of_some _ f1
 generalize e2:u1.push { cls:=.type "tuple",data:=.seq #[es[i].key,es[i].val] }=u2 at f2
 have z1:u1.objs.size=hp.objs.size:=k1.1
 have li:it < hp.objs.size:=Heap.lt_size hit
 have t2:u2.get? hp.objs.size=some { cls:=.type "tuple",data:=.seq #[es[i].key,es[i].val] }:=by rw [← e2,← z1];exact Heap.get?_push_size _ rfl
 have z2:u2.objs.size=hp.objs.size+1:=by rw [← e2,Heap.size_push,z1]
 have k2:∀ b o,b≠it→hp.get? b=some o→u2.get? b=some o:=fun b o hb e=>by rw [← e2];exact Heap.get?_push_of_some _ (k1.extBut b o hb e)
 show wpAny _ _ (Builtin.Dict_items.ownedTupleIsFree (.ref it) >>= _) _ _ ⟨u2,g,dr,tk,os⟩;rw [z1]
 clear e2 f1 k1 ty1 z1 u1
 refine wpAny_bind ?_;unfold Builtin.Dict_items.ownedTupleIsFree
 refine wpAny_bind (wpAny_field f2 rfl (x:=.none) rfl (wpAny_pure ?_));simp only [if_true]
 refine wpAny_bind (wpAny_field f2 rfl (x:=c1) rfl (wpAny_bind (wpAny_field f2 rfl (x:=c2) rfl ?_)))
 refine wpAny_bind (wpAny_setField_rec f2 (by simp) fun u3 f3 k3=>?_);replace k3:Heap.SameBut it u2 u3:=k3
 replace f3:IsItemIter u3 it d (i+1) es.size ep es[i].key c2:=f3
 refine wpAny_bind (wpAny_setField_rec f3 (by simp) fun u4 f4 k4=>?_);replace k4:Heap.SameBut it u3 u4:=k4
 replace f4:IsItemIter u4 it d (i+1) es.size ep es[i].key es[i].val:=f4
 refine wpAny_bind (wpAny_setField_rec f4 (by simp) fun u5 f5 k5=>?_);replace k5:Heap.SameBut it u4 u5:=k5
 replace f5:IsItemIterOut u5 it d (i+1) es.size ep es[i].key es[i].val hp.objs.size:=f5
 refine wpAny_bind (wpAny_setField_rec f5 (by simp) fun u6 f6 k6=>?_);replace k6:Heap.SameBut it u5 u6:=k6
 replace f6:IsItemIterOut u6 it d (i+1) es.size ep es[i].key es[i].val hp.objs.size:=f6
 have kk:∀ b o,b≠it→u2.get? b=some o→u6.get? b=some o:=fun b o hb e=>k6.extBut b o hb (k5.extBut b o hb (k4.extBut b o hb (k3.extBut b o hb e)))
 refine wpAny_bind (wpAny_letGo (wpAny_pure (wpAny_pure ⟨_,rfl,wpAny_pure (hQ u6 f6 (kk _ _ (Nat.ne_of_gt li) t2) ?_ fun b o hb e=>kk b o hb (k2 b o hb e))⟩)))
 show u6.objs.size=hp.objs.size+1;rw [k6.1,k5.1,k4.1,k3.1,z2]
theorem my_end {Q:Option Value→Shared→Prop} (hh:A.handled=none) (hit:IsItemIter s.heap it d i es.size ep c1 c2) (hg:s.heap.get? d=some od) (hdt:od.data=.dict es ep) (hge:es.size≤i)
  (hQ:∀ h',Heap.ExtBut it s.heap h'→Q none { s with heap:=h' }):wpAny (model prog w) A (pyNext (.ref it)) Q E s:=by
 have ty:s.TypeIs (.ref it) "dict_itemiterator":=⟨_,hit,rfl⟩
 unfold pyNext
 refine wpAny_bind (wpAny_attempt (wpAny_callSpecial?_slot (name:=Str.ofString "__next__") ty PySem.F.slot_dict_itemiterator_next (wpAny_call_entry PySem.F.slot_dict_itemiterator_next ty PySem.F.entry_dict_itemiterator_next ?_ (PySem.F.args_dict_itemiterator_next_1 _))))
 refine wpAny_bind (wpAny_pure (wpAny_bind (wpAny_bind ?_)))
 first | refine wpAny_bind (wpAny_typeNameOfWhole_itemiter ty (wpAny_pure ?_)) | refine wpAny_bind (wpAny_typeNameOf_itemiter ty (wpAny_pure ?_))
 refine wpAny_bind (wpAny_fieldsOf hit rfl ?_);simp only [show Builtin.Dict_items.ownsTuple "dict_itemiterator"=true by decide,if_true]
 show wpAny _ _ (if (Value.ref d == Value.none)=true then _ else _) _ _ s;rw [if_neg (show ¬ ((Value.ref d == Value.none)=true) by exact Bool.false_ne_true)]
 refine wpAny_bind (wpAny_pure (wpAny_bind (wpAny_dictEntries hg hdt ?_)));rw [if_neg (by simp)]
 refine wpAny_bind (wpAny_pure (wpAny_bind (wpAny_dictEpoch hg hdt ?_)));rw [if_neg (by simp)];refine wpAny_pure ?_
 simp only [show ¬ ((i:Int) < 0) by omega,if_false,Int.toNat_natCast,Array.getElem?_eq_none hge];refine wpAny_bind ?_
 first | refine wpAny_bind (wpAny_typeNameOfWhole_itemiter ty (wpAny_pure ?_)) | refine wpAny_bind (wpAny_typeNameOf_itemiter ty (wpAny_pure ?_))
 show wpAny _ _ (setField (.ref it) 2 .none >>= _) _ _ s;refine wpAny_bind (wpAny_setField hit rfl (by simp) ?_)
 show wpAny _ _ (newExc (.type "StopIteration") [] >>= _) _ _ _;refine wpAny_bind ?_
 simp only [newExc,newTuple];refine wpAny_bind (wpAny_newObj_type ?_ (by size_fits))
 refine wpAny_bind (m:=firstArgMember _ _) (wpAny_of_eq (a:=Value.none) (by first | rfl | (simp only [firstArgMember];rfl)) (wpAny_newObj_type ?_ (by size_fits)))
 simp only [raiseNew];refine wpAny_bind (wpAny_handled ?_);rw [show A.in1.handled=none by exact hh]
 refine wpAny_bind (wpAny_pure (wpAny_throw ?_));refine wpAny_bind (wpAny_isInstance (T:="StopIteration") (b:=true) ⟨_,Heap.get?_push_size _ rfl,rfl⟩ isSubtype_stop ?_)
 exact wpAny_pure (hQ _ (((Heap.SameBut.update ..).extBut.push _).push _))
end
def HeldAt (d:Addr) (od:Obj):Heap→Prop:=fun h=>h.get? d=some od
def Itz (d:Addr) (od:Obj) (ps:List (V×V)):It :=
  ⟨fun i H=>H d=some (.ext (HeldAt d od))∧i < ps.length,
   fun i H x H'=>∃ t k v,x=.ref t∧H t=none∧H'=upd H t (.tup [k,v])∧ps[i]?=some (k,v),
   fun i H=>H d=some (.ext (HeldAt d od))∧ps.length≤i⟩
theorem pairedD_get {F:V×V→DictEntry→Prop}:∀ {ps:List (V×V)} {es:List DictEntry},Paired F ps es→ps.length=es.length∧∀ (i:Nat) p e,ps[i]?=some p→es[i]?=some e→F p e:=by
 intro ps es r
 induction r with
 | nil=>exact ⟨rfl,fun i p e h=>by simp at h⟩
 | @cons a b as bs h t ih =>
  refine ⟨by simp [ih.1],fun i p e h1 h2=>?_⟩
  cases i with
  | zero=>simp at h1 h2;subst h1;subst h2;exact h
  | succ j=>exact ih.2 j p e (by simpa using h1) (by simpa using h2)
def EsOk (ps:List (V×V)) (es:Array DictEntry):Prop:=Paired (fun (p:V×V) (e:DictEntry)=>RelV p.1 e.key∧RelV p.2 e.val) ps es.toList
theorem turn_items {P:Program} {w:World} {K:PySem.W.Frag} {els:List Expr} {kk:Nat} {pos:Pos} {ps:List (V×V)} {es:Array DictEntry} {ep:Nat} {od:Obj} (d it:Addr) (hne:it≠d) (hdt:od.data=.dict es ep) (hes:EsOk ps es) :
  Turn P w K (.Tuple els kk pos) (Itz d od ps) [it] it (fun i h=>∃ c1 c2,IsItemIter h it d i es.size ep c1 c2) where
 mem:=by simp
 obj:=fun i h st b hb=>by
  have e:b=it:=by simpa using hb
  subst e
  obtain ⟨c1,c2,st⟩:=st
  exact ⟨_,st,fun v z=>by
   have z':Data.fields _=Data.cell v:=z
   cases z'⟩
 keep:=fun i h h' st k=>by obtain ⟨c1,c2,st⟩:=st;exact ⟨c1,c2,k it (by simp) _ st⟩
 item:=by
  intro X hP hw hK hc i pins s σ H E I hf st hg
  subst hP hw hK
  obtain ⟨c1,c2,st⟩:=st
  obtain ⟨hd,hi⟩:=hg
  have hod:s.heap.get? d=some od:=(show ObjOk X.prog X.w H s.heap d (.ext (HeldAt d od)) from I.hok d _ hd).1
  obtain ⟨hl,hget⟩:=pairedD_get hes
  have hl:ps.length=es.size:=by rw [← Array.length_toList];exact hl
  have hi':i < es.size:=by omega
  have hpe:=hget i ps[i] es[i] (List.getElem?_eq_getElem hi) (by rw [Array.getElem?_toList];exact Array.getElem?_eq_getElem hi')
  have hil:it < s.heap.objs.size:=Heap.lt_size st
  refine my_next st hod hdt hi' fun h1 ho hT hsz hk=>⟨_,rfl,wpAny_letOwnedTupleGo_items ho fun h2 he2 hs2=>?_⟩
  replace hs2:Heap.SameBut it h1 h2:=hs2
  have hT2:h2.get? s.heap.objs.size=some { cls:=.type "tuple",data:=.seq #[es[i].key,es[i].val] }:=(hs2.2 _ (Nat.ne_of_gt hil)).trans hT
  have I1:Inv X pins σ (upd H s.heap.objs.size (.tup [ps[i].1,ps[i].2])) { s with heap:=h2,toks:=s.toks } :=
   I.turnL (ch:=[it]) hf (fun b o hb q=>by
    have hbi:b≠it:=fun z=>hb (by simp [z])
    exact hs2.extBut b o hbi (hk b o hbi q)) (Nat.le_refl _)
    ⟨by show 2≤sizeLine;decide,[es[i].key,es[i].val],.cons hpe.1 (.cons hpe.2 .nil),⟨_,hT2,rfl,_,rfl⟩⟩
  refine ⟨.ref s.heap.objs.size,_,I1,rfl,⟨_,ps[i].1,ps[i].2,rfl,I.hok.fresh (Nat.le_refl _),rfl,List.getElem?_eq_getElem hi⟩,⟨_,_,he2⟩,fun b hb=>?_⟩
  rw [List.mem_singleton.mp hb,upd_ne (Nat.ne_of_lt hil)]
  exact (hf it (by simp)).1
 done:=by
  intro X hP hw hK hc i pins s σ H E I hf st hg
  subst hP hw hK
  obtain ⟨c1,c2,st⟩:=st
  obtain ⟨hd,hi⟩:=hg
  have hod:s.heap.get? d=some od:=(show ObjOk X.prog X.w H s.heap d (.ext (HeldAt d od)) from I.hok d _ hd).1
  obtain ⟨hl,hget⟩:=pairedD_get hes
  have hl:ps.length=es.size:=by rw [← Array.length_toList];exact hl
  obtain ⟨f0,f1,f2,f3,f4,f5⟩:=hf it (by simp)
  exact my_end (I.ok.hd hc) st hod hdt (by omega) fun h' eb=>⟨rfl,I.turned (t':=s.toks) (fun b o hb e=>eb b o hb e) f0 f1 f3 f4 f5⟩
 self:=fun _ _ _ _ _ st h=>by obtain ⟨c1,c2,st⟩:=st;exact PySem.W.kcp_self st h
def ThawT (P:Program) (w:World) (d:Addr) (od:Obj) (kvs:List (List Key×V)) (bs:List Addr):Prop :=
 ∀ (H':Hp) (h:Heap),h.get? d=some od→(∀ (i:Nat) b k y,bs[i]?=some b→kvs[i]?=some (k,y)→H' b=some (.tup (k.map kV)))→ObjOk P w H' h d (.dT kvs)
def iItemsT (P:Program) (w:World) (tl:TE):TI:=fun σ H R=>tl σ H fun x H1=>∃ v d kvs,x=.ref v∧H1 v=some (.ext (ItemsAt v d))∧H1 d=some (.dT kvs) ∧
 ∀ od bs,bs.length=kvs.length→(∀ (i:Nat) b k y,bs[i]?=some b→kvs[i]?=some (k,y)→H1 b=some (.tup (k.map kV)))→ThawT P w d od kvs bs→R (Itz d od (List.zipWith (fun b kv=>(V.ref b,kv.2)) bs kvs)) (upd H1 d (.ext (HeldAt d od)))
theorem pairedKT {H:Hp}:∀ {kvs:List (List Key×V)} {xs:List (List Key×Addr×Value)},KT H kvs xs→(xs.map (·.2.1)).length=kvs.length ∧
  (∀ (i:Nat) b k y,(xs.map (·.2.1))[i]?=some b→kvs[i]?=some (k,y)→H b=some (.tup (k.map kV))) ∧
  (∀ H':Hp,(∀ (i:Nat) b k y,(xs.map (·.2.1))[i]?=some b→kvs[i]?=some (k,y)→H' b=some (.tup (k.map kV)))→KT H' kvs xs) ∧
  ∀ {f:List Key×Addr×Value→DictEntry},(∀ x,(f x).key=.ref x.2.1∧(f x).val=x.2.2)→Paired (fun (p:V×V) (e:DictEntry)=>RelV p.1 e.key∧RelV p.2 e.val) (List.zipWith (fun b (kv:List Key×V)=>(V.ref b,kv.2)) (xs.map (·.2.1)) kvs) (xs.map f):=by
 intro kvs xs r
 induction r with
 | nil=>exact ⟨rfl,fun i b k y h=>by simp at h,fun _ _=>.nil,fun _=>.nil⟩
 | @cons p q ps qs hq t ih =>
  obtain ⟨i1,i2,i3,i4⟩:=ih
  obtain ⟨h1,h2,h3⟩:=hq
  refine ⟨by simpa using i1,fun i b k y e1 e2=>?_,fun H' hk=>.cons ⟨h1,hk 0 q.2.1 p.1 p.2 rfl rfl,h3⟩ (i3 H' fun i b k y e1 e2=>hk (i+1) b k y (by simpa using e1) (by simpa using e2)),fun hf=>?_⟩
  ·cases i with
   | zero =>
    have e1':q.2.1=b:=by simpa using e1
    have e2':p=(k,y):=by simpa using e2
    subst e1';subst e2';exact h2
   | succ j=>exact i2 j b k y (by simpa using e1) (by simpa using e2)
  ·refine .cons ⟨?_,?_⟩ (i4 hf)
   ·rw [(hf q).1];exact rfl
   ·rw [(hf q).2];exact h3
section
variable {X:Cx}
theorem pi_itemsT {P:Program} {w:World} {els:List Expr} {kk:Nat} {p0:Pos} {l:Expr} {tl:TE} (hl:PE X l tl) (hP:X.prog=P:=by rfl) (hw:X.w=w:=by rfl):PI X (.Tuple els kk p0) l (iItemsT P w tl):=by
 subst hP hw
 intro pins s σ H R I h
 refine thn (hl pins s σ H _ I h) fun v s1 ⟨x,H1,I1,r1,q1⟩=>?_
 obtain ⟨va,d,kvs,rfl,hv,hd,q⟩:=q1
 cases r1
 have φ:ItemsAt va d s1.heap:=(show ObjOk X.prog X.w H1 s1.heap va (.ext (ItemsAt va d)) from I1.hok va _ hv).1
 obtain ⟨z,hsy,xs,rel,od,es,ep,h1,h2,h3,h4,h5⟩:=(show ObjOk X.prog X.w H1 s1.heap d (.dT kvs) from I1.hok d _ hd)
 obtain ⟨k1,k2,k3,k4⟩:=pairedKT rel
 have hes:EsOk (List.zipWith (fun b (kv:List Key×V)=>(V.ref b,kv.2)) (xs.map (·.2.1)) kvs) es:=by
  unfold EsOk;rw [h4];exact k4 fun x=>⟨rfl,rfl⟩
 have hdl:d < s1.heap.objs.size:=Heap.lt_size h1
 refine my_iter φ h1 h3 ?_
 generalize e2:s1.heap.push { cls:=.type "dict_itemiterator",data:=.fields #[.none,.bool false,.ref d,.int 0 0,.int es.size 0,.int ep 0,.none,.none] }=h'
 have hk:∀ b o,s1.heap.get? b=some o→h'.get? b=some o:=fun b o e=>by rw [← e2];exact Heap.get?_push_of_some _ e
 have hi':IsItemIter h' s1.heap.objs.size d 0 es.size ep .none .none:=by rw [← e2];exact Heap.get?_push_size _ rfl
 have I2:Inv X pins σ H1 { s1 with heap:=h' }:=I1.kept (t':=s1.toks) hk
 have I3:Inv X pins σ (upd H1 d (.ext (HeldAt d od))) { s1 with heap:=h',toks:=s1.toks } :=
  I2.write (x:=d) (e:=d) (by rw [hd];exact True.intro) (.inl rfl) (fun b u _ e=>e) ⟨_,hk d _ h1⟩ ⟨hk d _ h1,⟨_,hk d _ h1⟩,fun a1 a2 y k=>k _ y⟩
 refine ⟨s1.heap.objs.size,[s1.heap.objs.size],_,_,_,rfl,I3,turn_items d s1.heap.objs.size (Nat.ne_of_gt hdl) h3 hes,⟨.none,.none,hi'⟩,fun b hb=>?_,q od (xs.map (·.2.1)) k1 k2 fun H' hp hg hky=>⟨z,hsy,xs,k3 H' hky,od,es,ep,hg,h2,h3,h4,h5⟩⟩
 have hb':=List.mem_singleton.mp hb
 have hf:=I1.fpOk (b:=s1.heap.objs.size) (Nat.le_refl _) (I1.hok.fresh (Nat.le_refl _))
 rw [hb']
 exact ⟨by rw [upd_ne (Nat.ne_of_gt hdl)];exact hf.1,hf.2⟩
def tThaw (P:Program) (w:World) (t:TE):TE:=fun σ H Q=>t σ H fun x H1=>∃ d od kvs bs,ThawT P w d od kvs bs∧H1 d=some (.ext (HeldAt d od))∧bs.length=kvs.length∧(∀ (i:Nat) b k y,bs[i]?=some b→kvs[i]?=some (k,y)→H1 b=some (.tup (k.map kV)))∧Q x (upd H1 d (.dT kvs))
theorem pe_thaw {P:Program} {w:World} {e:Expr} {t:TE} (h:PE X e t) (hP:X.prog=P:=by rfl) (hw:X.w=w:=by rfl):PE X e (tThaw P w t):=by
 subst hP hw
 intro pins s σ H Q I q
 refine thn (h pins s σ H _ I q) fun v s1 ⟨x,H1,I1,r1,d,od,kvs,bs,th,hd,hl,hk,q1⟩=>?_
 have ho:s1.heap.get? d=some od:=(show ObjOk X.prog X.w H1 s1.heap d (.ext (HeldAt d od)) from I1.hok d _ hd).1
 have I2:Inv X pins σ (upd H1 d (.dT kvs)) { s1 with heap:=s1.heap,toks:=s1.toks } :=
  I1.write (x:=d) (e:=d) (by rw [hd];exact True.intro) (.inl rfl) (fun b u _ e=>e) ⟨_,ho⟩ (th _ _ ho fun i b k y e1 e2=>by
   have hb:=hk i b k y e1 e2
   rw [upd_ne (ne_of hb hd (fun z=>nomatch z))];exact hb)
 exact ⟨x,_,I2,r1,q1⟩
theorem comp_items {P:Program} {w:World} {d:Addr} {od:Obj} {ps:List (V×V)} {g:TG} {te:TE} {caps:List (Option Nat)} {σ:St} {H:Hp} {Q:VK} (Pv:Addr→Nat→List V→Hp→Prop) (h0:∀ acc,H acc=none→Pv acc 0 [] (upd H acc (.lst [])))
  (hl:∀ acc i ys H',H acc=none→i≤ps.length→Pv acc i ys H'→H' d=some (.ext (HeldAt d od)))
  (hs:∀ acc i k v ys H' t,H acc=none→ps[i]?=some (k,v)→Pv acc i ys H'→H' t=none→g (.ref t) (capσ caps σ) (upd H' t (.tup [k,v])) fun σ2 H2=>Wk (capσ caps σ) σ2∧te σ2 H2 fun y H3=>H3 acc=some (.lst ys)∧ys.length < sizeLine∧Pv acc (i+1) (ys++[y]) (upd H3 acc (.lst (ys++[y]))))
  (hd:∀ acc ys H',H acc=none→Pv acc ps.length ys H'→Q (.ref acc) H'):CompR caps g te σ Q (Itz d od ps) H:=by
 intro acc hacc
 refine ⟨fun i m ys H=>m=ps.length - i∧i≤ps.length∧Pv acc i ys H,⟨ps.length,by simp,Nat.zero_le _,h0 acc hacc⟩,?_⟩
 rintro i m ys H' ⟨rfl,hi,p⟩
 have q:=hl acc i ys H' hacc hi p
 by_cases hlt:i < ps.length
 ·refine .inr ⟨⟨q,hlt⟩,Pv acc (i+1),fun ys' H' p'=>⟨ps.length - (i+1),by omega,rfl,hlt,p'⟩,fun x H'' y=>?_⟩
  obtain ⟨t,k,v,rfl,ht,rfl,e⟩:=y
  exact hs acc i k v ys H' t hacc e p ht
 ·have e:i=ps.length:=by omega
  subst e
  exact .inl ⟨⟨q,Nat.le_refl _⟩,hd acc ys H' hacc p⟩
end
section
variable {σ:St} {H:Hp} {Q:VK} {t td ty tl:TE} {P:Program} {w:World}
theorem r_thaw (h:t σ H fun x H1=>∃ d od kvs bs,ThawT P w d od kvs bs∧H1 d=some (.ext (HeldAt d od))∧bs.length=kvs.length∧(∀ (i:Nat) b k y,bs[i]?=some b→kvs[i]?=some (k,y)→H1 b=some (.tup (k.map kV)))∧Q x (upd H1 d (.dT kvs))):tThaw P w t σ H Q:=h
theorem r_iitems {R:It→Hp→Prop} (h:tl σ H fun x H1=>∃ v d kvs,x=.ref v∧H1 v=some (.ext (ItemsAt v d))∧H1 d=some (.dT kvs) ∧
 ∀ od bs,bs.length=kvs.length→(∀ (i:Nat) b k y,bs[i]?=some b→kvs[i]?=some (k,y)→H1 b=some (.tup (k.map kV)))→ThawT P w d od kvs bs→R (Itz d od (List.zipWith (fun b kv=>(V.ref b,kv.2)) bs kvs)) (upd H1 d (.ext (HeldAt d od)))):iItemsT P w tl σ H R:=h
theorem r_dget1 (h:td σ H fun x H1=>∃ a,x=.ref a∧IsD H1 a∧ty σ H1 fun y H2=>∃ o,DGet H2 a y o∧Q (o.getD .non) H2):tDGet1 td ty σ H Q:=h
theorem r_dnewT (h:∀ p,H p=none→Q (.ref p) (upd H p (.dT []))):tDNewT σ H Q:=h
end
section
variable {X:Cx} (K:PySem.W.Frag)
end
end L2
namespace My
end My
namespace PySem
open PySem.Spec PyProof.Rows
section
variable {prog:Program} {w:World} {A:Around} {R:Result→Shared→Prop} {s:Shared}
end
end PySem
namespace L2
open PySem PySem.Spec PyProof.Rows
section
variable {X:Cx} {scope:Scope} {N':List Str} {caps:List (Option Nat)} {elt cond iter tg:Expr} {pos:Pos} {wi:TI} {g:TG} {tt:TT} {te:TE}
end
end L2
namespace L2
open PySem PySem.Spec PyProof.Rows
section
variable {X:Cx} {CX:CXT} {k:Nat} {f C:Addr} {fd:FuncData} {ps:List Str} {sp:Sp} {dvs:List V} {ds:List Value} {E:XK} {x m:Str} {p pos apos:Pos} {e o:Expr} {es:List Expr} {ta:TE} {t:TA}
end
end L2
namespace L2
open PySem PySem.Spec PyProof.Rows
open PySem.AutoSeq1 (wpAny_loadPart')
open PySem.MeetsSeq PySem.MeetsSeq2 PySem.MeetsSeq3 PySem.SeqAt
section
variable {X:Cx} (K:PySem.W.Frag)
end
end L2
namespace My
open PySem L2
end My
namespace My
open PySem L2
end My
namespace My
open PySem L2
def lampI (ls:List Bool) (i:Int):Bool:=ls.getD i.toNat false
end My
namespace L2
open PySem PySem.Spec PyProof.Rows
inductive PHs (X:Cx) (n:Str):List ExceptHandler→(Addr→TS)→Prop where
 | nil:PHs X n [] (fun _ _ _ _=>False)
 | cons {x:Str} {np:Pos} {C1:Addr} {b₀:Stmt} {suite:List Stmt} {hpos:Pos} {ts:TS} {rest:List ExceptHandler} {th:Addr→TS}:Gl X x→X.mg x=some (.ref C1)→(x == ("__debug__":Str))=false→(∀ (ea:Addr) (pn:List (Addr×Obj)),PSs (suiteX X ea pn) (b₀ :: suite) ts)→PHs X n rest th →
   PHs X n (.ExceptHandler (some (.Name x np)) (some n) (b₀ :: suite) hpos :: rest) (fun C D σ H=>(PySem.W.exmOne X.K (.ref C) (.ref C1)=some true∧ts D σ H)∨(PySem.W.exmOne X.K (.ref C) (.ref C1)=some false∧th C D σ H))
def tTryN (k:Nat) (tb:XK→TS) (i:Nat) (th:Addr→TS):TS:=fun D σ H =>
 tb (fun cls _ H'=>∃ C,cls=.ref C∧∀ ea,H' ea=none→th C (suiteEnds i D) ((List.replicate k none).set i (some (.ref ea))) (upd H' ea (.ext (ExcAt ea C)))) D σ H
theorem ps_tryN {X:Cx} {body:List Stmt} {n:Str} {i:Nat} {pos:Pos} {tb:XK→TS} {h0:ExceptHandler} {hr0:List ExceptHandler} {th:Addr→TS} (hstk:X.stack=X.env :: X.outer) (hfr:X.env.frame=some X.env.locals)
  (hN:X.N.Nodup) (hi:X.N[i]?=some n) (hl:X.env.scope.names.lookup n=some .local)
  (hb:∀ (E:XK) (xe:Value→Shared→Prop) (pn:List (Addr×Obj)),Xp (wish2 X xe pn) E→PSs (wish2 X xe pn) body (tb E)) (hh:PHs X n (h0 :: hr0) th) :
  PS X (.Try body (h0 :: hr0) [] [] pos) (tTryN X.N.length tb i th):=by
 intro pins s σ H D I h
 refine wpAny_Try_except (wpAny_mono (hb _ (fun e s₁=>wpAny (model X.prog X.w) X.A (noteFrame e X.env) (fun _ s₂=>wpAny (model X.prog X.w) X.A (setFlight e none) (fun _ s₃ =>
   wpAny (model X.prog X.w) X.A (handleBy e X.env (h0 :: hr0)) (SP X pins D) X.xe s₃) X.xe s₂) X.xe s₁) (X.pn++pins) ⟨?pass,PassesOwn.looking⟩ [] s σ H D I.toW h) (fun f s1 q=>?_) fun e s1 q=>q)
 case pass =>
  intro pins1 σ1 H1 s1 e s' I1 hx
  obtain ⟨ea,cls,a0,B,H',rfl,ho,hgn,u,hok,fl,dm,tr,hcls⟩:=hx
  obtain ⟨C,rfl,hts⟩:=hcls
  have IX:Inv X pins σ1 H1 s1:=I1.ofW
  have u:Un (frs X.stack) [] H1 H' s1.heap s'.heap:=u
  have fl:Heap.FlyingW B X.stack ea (.ref C) a0 s'.heap:=fl
  have dm:∀ b o,s1.heap.get? b=some o→b∉frs X.stack→∃ o',B.get? b=some o':=dm
  have heaH:H' ea=none:=by
   cases e:H' ea with
   | none=>rfl
   | some w'=>obtain ⟨o',z⟩:=tr ea w' e;rw [fl.2.1] at z;cases z
  have hea1:s1.heap.get? ea=none:=by
   cases e:s1.heap.get? ea with
   | none=>rfl
   | some w' =>
    exfalso
    by_cases hb:ea∈frs X.stack
    ·obtain ⟨sl,e1⟩:=u.slot ea w' e (IX.stkFree ea hb) hb (by simp)
     obtain ⟨_,o',e',hdn⟩:=IX.stack.mem hb
     rw [e] at e';cases e'
     obtain ⟨_,_,_,oe,vs,_,_,_,he,_,hdt,_⟩:=fl
     rw [e1] at he;cases he
     exact hdn vs hdt
    ·obtain ⟨o',z⟩:=dm ea w' e hb;rw [fl.2.1] at z;cases z
  have fl0:=fl
  rw [hstk] at fl
  refine wpAny_looks_onW (by rw [← hstk];exact I.ok.frames) hfr fl fun h4 held sm4=>?_
  refine wpAny_landsW held fun h5 fl5 sm5=>?_
  obtain ⟨u5,ok5⟩:=fly_un IX u hok fl0.1 fl5.1 (sm4.trans sm5) dm tr
  have I5:Inv X pins σ1 H' { s' with heap:=h5 }:=IX.call' (s':={ s' with heap:=h5 }) ho u5 ok5 hgn (fun b hb=>by cases hb)
  have J5:Inv (suiteX X ea (X.pn++pins)) [] σ1 H' { s' with heap:=h5 }:=I5.toS
  obtain ⟨ob,hob,hobc⟩:=fl5.there
  have LT:PySem.W.Looks (model X.prog X.w) h5 (typeOf (.ref ea)) (.ref C):=by
   have z:PySem.W.Looks (model X.prog X.w) h5 (typeOf (.ref ea)) ob.cls:=(PySem.W.Looks.ld hob).andThen .now
   rwa [hobc] at z
  have KI:X.K.In h5:=I5.kIn
  have hts0:=hts ea heaH
  clear hts
  have hh0:=hh
  generalize hthe:th=the at hts0 hh0
  clear hthe
  generalize hhse:h0 :: hr0=hse at hh0 ⊢
  clear hhse
  induction hh0 with
  | nil=>exact hts0.elim
  | @cons x np C1 b₀ suite hpos ts rest th2 hg hm hd hs2 hrest ih =>
   rcases hts0 with ⟨hx1,hts1⟩ | ⟨hx1,hts1⟩
   ·refine wpAny_handleBy_cons (codeAny_handlers_test (ld_glob J5 hg hm ?_ hd)) (by intro q;cases q)
    refine PySem.W.exm_one KI LT hx1 _ _ _ _ (fun _ _ e=>e) ?_
    refine codeAny_handlers_suite_as ?_
    obtain ⟨hp',g',d',t',os'⟩:=s'
    refine lands_againW fl5 fun h6 fl6 sm6=>?_
    obtain ⟨u6,ok6⟩:=fly_un IX u hok fl0.1 fl6.1 ((sm4.trans sm5).trans sm6) dm tr
    have φ:ExcAt ea C h6:=by
     obtain ⟨_,_,_,oe,vs,_,_,_,he,hcl,hdt,_⟩:=fl6
     exact ⟨oe,vs,he,hcl.1,hdt⟩
    have nea:∀ b o,s1.heap.get? b=some o→b≠ea:=fun b o e z=>by rw [z,hea1] at e;cases e
    have u7:Un (frs X.stack) [] H1 (upd H' ea (.ext (ExcAt ea C))) s1.heap h6 :=
     ⟨u6.keep,u6.slot,fun b o e n hx=>by rw [upd_ne (nea b o e)];exact u6.free b o e n hx,u6.there,fun b xs e=>by rw [upd_ne (ne_of_none (u6.tups b xs e) heaH)];exact u6.tups b xs e,
      fun b o xs e=>by rw [upd_ne (ne_of_none (u6.frzs b o xs e) heaH)];exact u6.frzs b o xs e,fun b ps e=>by obtain ⟨mr,z⟩:=u6.tbls b ps e;exact ⟨mr,by rw [upd_ne (ne_of_none z heaH)];exact z⟩⟩
    have ok7:HOk X.prog X.w (upd H' ea (.ext (ExcAt ea C))) h6:=fun b v e=>by
     by_cases hb:b=ea
     ·subst hb;rw [upd_same] at e;cases e
      obtain ⟨o,vs,z1,z2,z3⟩:=id φ
      exact ⟨φ,⟨o,z1⟩,fun h1 h2 ⟨o',vs',y1,y2,y3⟩ k=>⟨o',vs',k o' y1,y2,y3⟩⟩
     ·rw [upd_ne hb] at e
      exact (ok6 b v e).stay (fun _ _ _ q=>q) (fun c q=>by rw [upd_ne (ne_of_none q heaH)];exact q) fun c xs q=>by rw [upd_ne (ne_of_none q heaH)];exact q
    have I7:Inv X pins σ1 (upd H' ea (.ext (ExcAt ea C))) ⟨h6,g',d',t',os'⟩:=IX.call' (s':=⟨h6,g',d',t',os'⟩) ho u7 ok7 hgn (fun b hb=>by cases hb)
    have I8:Inv X pins (List.replicate X.N.length none) (upd H' ea (.ext (ExcAt ea C))) ⟨h6,g',d',t',os'⟩:=I7.weak (by rw [List.length_replicate,I7.len]) fun j v e=>by
     rw [List.getElem?_replicate] at e
     split at e <;> cases e
    have J8:Inv (suiteX X ea (X.pn++pins)) [] (List.replicate X.N.length none) (upd H' ea (.ext (ExcAt ea C))) ⟨h6,g',d',t',os'⟩:=I8.toS
    refine store_ok (X:=suiteX X ea (X.pn++pins)) (v:=.ref ea) J8 hN hi (.inl hl) rfl (fun s9 J9=>?_) (.inr hl)
    refine wpAny_mono (hs2 ea (X.pn++pins) [] s9 _ _ _ J9 hts1) (fun f s10 q10=>?_) (fun _ _ z=>z.elim)
    have done:∀ {σ':St} {Hn:Hp},Inv (suiteX X ea (X.pn++pins)) [] σ' Hn s10→(∀ s11,Inv X pins (σ'.set i none) Hn s11→SP X pins D f s11)→wpAny (model X.prog X.w) X.A (do bindName X.env n .none;unbindBehindTheSuite X.env n hpos) (fun _ s₃=>SP X pins D f s₃) X.xe s10:=fun {σ' Hn} J k=>by
     have IJ:Inv X pins σ' Hn s10:=J.ofS I.ok.hd I.ok.frames
     obtain ⟨m,hnm,hlm⟩:=id IJ.loc
     exact wpAny_nameGoes_keeps hl hnm (by rw [I.ok.kind];rfl) fun h' v hn' hs'=>k _ (IJ.goes hN hi hlm hn' hs')
    cases f with
    | next=>obtain ⟨σ',Hn,J,q⟩:=q10;exact done J fun s11 I11=>⟨_,Hn,I11,q⟩
    | brk=>obtain ⟨σ',Hn,J,q⟩:=q10;exact done J fun s11 I11=>⟨_,Hn,I11,q⟩
    | cont=>obtain ⟨σ',Hn,J,q⟩:=q10;exact done J fun s11 I11=>⟨_,Hn,I11,q⟩
    | ret v=>obtain ⟨y,σ',Hn,J,r,q⟩:=q10;exact done J fun s11 I11=>⟨y,_,Hn,I11,r,q⟩
   ·refine wpAny_handleBy_cons (codeAny_handlers_test (ld_glob J5 hg hm ?_ hd)) (by intro q;cases q)
    refine PySem.W.exm_one KI LT hx1 _ _ _ _ (fun _ _ e=>e) ?_
    exact ih hts1
 ·cases f with
  | next=>obtain ⟨σ',Hn,J,q⟩:=q;exact wpAny_execs_nil ⟨σ',Hn,J.ofW,q⟩
  | brk=>obtain ⟨σ',Hn,J,q⟩:=q;exact ⟨σ',Hn,J.ofW,q⟩
  | cont=>obtain ⟨σ',Hn,J,q⟩:=q;exact ⟨σ',Hn,J.ofW,q⟩
  | ret v=>obtain ⟨y,σ',Hn,J,r,q⟩:=q;exact ⟨y,σ',Hn,J.ofW,r,q⟩
theorem exm_of {K:PySem.W.Frag} {C C1:Addr} {b:Bool} (h1:PySem.W.mroIn K C1 (.type "BaseException")=some true) (c1:PySem.W.isClsIn K C1=true) (c2:PySem.W.typeIn K (.ref C1)=some (.type "type")) (m:PySem.W.mroIn K C (.ref C1)=some b):PySem.W.exmOne K (.ref C) (.ref C1)=some b:=by
 unfold PySem.W.exmOne PySem.W.kitCls
 have z:PySem.W.subIn K (.ref C1) (.type "BaseException")=some true:=h1
 rw [z,if_pos (by decide +kernel)]
 dsimp only
 have c1:(PySem.W.clsIn K C1).isSome=true:=c1
 rw [c1,c2,if_pos (by decide +kernel)]
 exact m
theorem r_tryN {k:Nat} {tb:XK→TS} {i:Nat} {th:Addr→TS} {D:Ends} {σ:St} {H:Hp} (h:tb (fun cls _ H'=>∃ C,cls=.ref C∧∀ ea,H' ea=none→th C (suiteEnds i D) ((List.replicate k none).set i (some (.ref ea))) (upd H' ea (.ext (ExcAt ea C)))) D σ H):tTryN k tb i th D σ H:=h
end L2
namespace L2
open PySem PySem.Spec PyProof.Rows
section
variable {X:Cx}
end
section
variable {σ:St} {H:Hp} {tl:TE} {P:Program} {w:World}
end
end L2
namespace My
open PySem L2
end My
namespace L2
open PySem PySem.Spec PyProof.Rows
end L2
namespace My
open PySem L2
theorem slt_short {a b:List Int} (h:a.length < b.length):slt a b:=by
 unfold slt later;rw [if_pos (by omega)];simpa using h
theorem walkI_app (rss:List (List Int)) (q:Int) (u v:List Int):walkI rss q (u++v)=walkI rss (walkI rss q u) v:=by
 unfold walkI;rw [List.foldl_append]
end My
namespace L2
open PySem PySem.Spec PyProof.Rows
section
variable {X:Cx}
theorem Inv.turnedL {pins:List (Addr×Obj)} {σ:St} {H:Hp} {s:Shared} {h':Heap} {t':Nat} {ch:List Addr} (I:Inv X pins σ H s) (hf:∀ b∈ch,FpOk X pins H b) (k:∀ b o,b∉ch→s.heap.get? b=some o→h'.get? b=some o):Inv X pins σ H { s with heap:=h',toks:=t' }:=by
 have nit:∀ b u,H b=some u→b∉ch:=fun b u e z=>by rw [(hf b z).1] at e;cases e
 have hL:X.env.locals∉ch:=fun z=>(hf _ z).2.1 rfl
 refine I.step (g':=s.gens) (d':=s.drawn) (ch:=ch) (fun b hb=>?_) (fun b o _ _ hc e _=>k b o hc e) (fun b o _ _ hc e _=>⟨o.slots,k b o hc e⟩) (fun _ _ _ _ n=>n)
  (fun b o hc e=>⟨o,k b o hc e⟩) (fun _ _ e=>e) (fun _ _ _ e=>e) (fun b ps e=>⟨#[],by rw [e];simp⟩) (fun m hm=>?_) (fun b u e=>?_) I.bare
 ·obtain ⟨_,f1,_,f3,f4,f5⟩:=hf b hb
  exact ⟨f3,f1,f4,f5⟩
 ·obtain ⟨o,es,ep,ho,r⟩:=hm
  exact ⟨o,es,ep,k _ o hL ho,r⟩
 ·refine (I.hok b u e).stay (fun c v hc q=>k c v ?_ q) (fun _ q=>q) fun _ _ q=>q
  rcases hc with z | z
  ·rw [z];exact nit b u e
  ·exact nit c _ z
end
def It2 (K:PySem.W.Frag) (a b:Addr):It :=
  ⟨fun i H=>∃ xs ys x y,SqL K H a xs∧SqL K H b ys∧xs[i]?=some x∧ys[i]?=some y,
   fun i H x H'=>∃ t u v,x=.ref t∧H t=none∧H'=upd H t (.tup [u,v])∧(∀ xs,SqL K H a xs→xs[i]?=some u)∧∀ ys,SqL K H b ys→ys[i]?=some v,
   fun i H=>∃ xs ys,SqL K H a xs∧SqL K H b ys∧xs.length≤i⟩
theorem turn_zip {P:Program} {w:World} {K:PySem.W.Frag} {es:List Expr} {kk:Nat} {pos:Pos} (z TI TO i1 i2 a b:Addr) (ap:ZipApart z TI TO i1 i2 a b) :
  Turn P w K (.Tuple es kk pos) (It2 K a b) [z,TI,TO,i1,i2] z (fun i h=>IsZip h z TI TO .none∧IsPair h TI (.ref i1) (.ref i2)∧(∃ p q,IsPair h TO p q)∧h.IsListIter i1 a i∧h.IsListIter i2 b i) where
 mem:=by simp
 obj:=fun i h st c hc=>by
  obtain ⟨h1,h2,⟨p,q,h3⟩,h4,h5⟩:=st
  simp only [List.mem_cons,List.not_mem_nil,or_false] at hc
  rcases hc with rfl | rfl | rfl | rfl | rfl
  ·exact ⟨_,h1,fun v z=>by have z':Data.fields _=Data.cell v:=z;cases z'⟩
  ·exact ⟨_,h2,fun v z=>by have z':Data.seq _ _=Data.cell v:=z;cases z'⟩
  ·exact ⟨_,h3,fun v z=>by have z':Data.seq _ _=Data.cell v:=z;cases z'⟩
  ·obtain ⟨o,e1,c,d⟩:=h4
   exact ⟨o,e1,fun v z=>by rw [d] at z;cases z⟩
  ·obtain ⟨o,e1,c,d⟩:=h5
   exact ⟨o,e1,fun v z=>by rw [d] at z;cases z⟩
 keep:=fun i h h' st k=>by
  obtain ⟨h1,h2,⟨p,q,h3⟩,h4,h5⟩:=st
  exact ⟨k _ (by simp) _ h1,k _ (by simp) _ h2,⟨p,q,k _ (by simp) _ h3⟩,h4.at fun o q=>k _ (by simp) o q,h5.at fun o q=>k _ (by simp) o q⟩
 item:=by
  intro X hP hw hK hc i pins s σ H E I hf st hg
  subst hP hw hK
  obtain ⟨h1,h2,⟨p,q,h3⟩,h4,h5⟩:=st
  obtain ⟨xs,ys,x,y,hqa,hqb,hx,hy⟩:=hg
  obtain ⟨ia,rva,pa,hza⟩:=I.list hqa
  obtain ⟨ib,rvb,pb,hzb⟩:=I.list hqb
  obtain ⟨u,hu,ru⟩:=rva.get hx
  obtain ⟨v,hv,rv⟩:=rvb.get hy
  have hzl:z < s.heap.objs.size:=Heap.lt_size h1
  have htl:TI < s.heap.objs.size:=Heap.lt_size h2
  have hol:TO < s.heap.objs.size:=Heap.lt_size h3
  have h1l:i1 < s.heap.objs.size:=by obtain ⟨o,q,_⟩:=id h4;exact Heap.lt_size q
  have h2l:i2 < s.heap.objs.size:=by obtain ⟨o,q,_⟩:=id h5;exact Heap.lt_size q
  refine wpAny_pyNext_zip_item ap h1 h2 h3 h4 h5 pa.isList pb.isList (x:=u) (y:=v) (by simpa using hu) (by simpa using hv) fun hh z1 o1 l1 l2 pt hsz hk=>?_
  refine ⟨_,rfl,wpAny_letOwnedTupleGo_zip z1 fun h2' z2 sb=>?_⟩
  have kk:∀ c o,c≠z→c≠TO→c≠i1→c≠i2→s.heap.get? c=some o→h2'.get? c=some o:=fun c o n1 n2 n3 n4 e=>sb.extBut c o n1 (hk c o n1 n2 n3 n4 e)
  have hT2:h2'.get? s.heap.objs.size=some { cls:=.type "tuple",data:=.seq #[u,v] }:=(sb.2 _ (Nat.ne_of_gt hzl)).trans pt
  have I1:Inv X pins σ (upd H s.heap.objs.size (.tup [x,y])) { s with heap:=h2',toks:=s.toks } :=
   I.turnL (ch:=[z,TI,TO,i1,i2]) hf (fun c o hc e=>by
    simp only [List.mem_cons,List.not_mem_nil,or_false,not_or] at hc
    exact kk c o hc.1 hc.2.2.1 hc.2.2.2.1 hc.2.2.2.2 e) (Nat.le_refl _)
    ⟨by show 2≤sizeLine;decide,[u,v],.cons ru (.cons rv .nil),⟨_,hT2,rfl,_,rfl⟩⟩
  refine ⟨.ref s.heap.objs.size,_,I1,rfl,⟨_,x,y,rfl,I.hok.fresh (Nat.le_refl _),rfl,fun ys' hy'=>by rw [I.list_inj hy' hqa];exact hx,fun ys' hy'=>by rw [I.list_inj hy' hqb];exact hy⟩,⟨z2,kk _ _ ap.TIz ap.TITO ap.TIi1 ap.TIi2 h2,⟨u,v,sb.extBut _ _ ap.TOz o1⟩,l1.extBut sb.extBut ap.i1z,l2.extBut sb.extBut ap.i2z⟩,fun c hc=>?_⟩
  have hcl:c < s.heap.objs.size:=by
   simp only [List.mem_cons,List.not_mem_nil,or_false] at hc
   rcases hc with rfl | rfl | rfl | rfl | rfl <;> assumption
  rw [upd_ne (Nat.ne_of_lt hcl)]
  exact (hf c hc).1
 done:=by
  intro X hP hw hK hc i pins s σ H E I hf st hg
  subst hP hw hK
  obtain ⟨h1,h2,⟨p,q,h3⟩,h4,h5⟩:=st
  obtain ⟨xs,ys,hqa,hqb,hx⟩:=hg
  obtain ⟨ia,rva,pa,hza⟩:=I.list hqa
  obtain ⟨ib,rvb,pb,hzb⟩:=I.list hqb
  have hl:=rva.length
  exact wpAny_pyNext_zip_end (I.ok.hd hc) ap h1 h2 h3 h4 h5 pa.isList pb.isList (.inl (by simp;omega)) fun h' k=>⟨rfl,I.turnedL (t':=s.toks) hf (fun c o hc e=>by
   simp only [List.mem_cons,List.not_mem_nil,or_false,not_or] at hc
   exact k c o hc.1 hc.2.2.1 hc.2.2.2.1 hc.2.2.2.2 e)⟩
 self:=fun _ _ _ _ _ st h=>wpAny_pyIter_zip st.1 h
section
variable {X:Cx}
theorem zip_apart {n a b:Nat} (ha:a < n) (hb:b < n):ZipApart (n+4) (n+2) (n+3) n (n+1) a b:=by
 constructor <;> (intro h;(have h':@Eq Nat _ _:=h);omega)
def iZip (K:PySem.W.Frag) (ta:TA):TI:=fun σ H R=>ta σ H fun vs H1=>∃ a b,vs=[.ref a,.ref b]∧(∃ xs,SqL K H1 a xs)∧(∃ ys,SqL K H1 b ys)∧R (It2 K a b) H1
theorem pi_zip (K:PySem.W.Frag) {es:List Expr} {kk:Nat} {p0:Pos} {l1 l2:Expr} {ta:TA} {p pos:Pos} (hg:Gl X "zip") (hm:X.mg "zip"=none) (ha:PA X [l1,l2] ta) (hs:starEach [l1,l2] X.env=(false,eval l1 X.env) :: starEach [l2] X.env:=by rfl) (hs2:((backTo pos (starEach [l2] X.env)).any fun x=>x.fst)=false:=by rfl) (hK:X.K=K:=by rfl) :
  PI X (.Tuple es kk p0) (.Call (.Name "zip" p) [l1,l2] [] pos) (iZip K ta):=by
 subst hK
 intro pins s σ H R I h
 refine Call_ (ld_blt I hg hm boot_zip (PyProof.Rows.callWith_type1 (thn (ha pos pins s σ H _ I h) fun us s1 ⟨vs,H1,I1,r1,q1⟩=>?_) hs hs2))
 obtain ⟨a,b,e,⟨xs,hqa⟩,⟨ys,hqb⟩,q⟩:=q1
 subst e
 cases r1 with
 | cons ra rr =>
  cases rr with
  | cons rb rr =>
   cases rr
   cases ra
   cases rb
   obtain ⟨ia,rva,pa,hza⟩:=I1.list hqa
   obtain ⟨ib,rvb,pb,hzb⟩:=I1.list hqb
   have hal:a < s1.heap.objs.size:=by obtain ⟨o,q,_⟩:=id pa.isList;exact Heap.lt_size q
   have hbl:b < s1.heap.objs.size:=by obtain ⟨o,q,_⟩:=id pb.isList;exact Heap.lt_size q
   refine call_zip_2 pa.isList pb.isList fun h' z1 t1 o1 l1 l2 hsz hk=>?_
   refine wpAny_pyIter_zip z1 ?_
   have I2:Inv X pins σ H1 { s1 with heap:=h' }:=I1.kept (t':=s1.toks) hk
   have ap:ZipApart (s1.heap.objs.size+4) (s1.heap.objs.size+2) (s1.heap.objs.size+3) s1.heap.objs.size (s1.heap.objs.size+1) a b:=by
    exact zip_apart hal hbl
   refine ⟨s1.heap.objs.size+4,[s1.heap.objs.size+4,s1.heap.objs.size+2,s1.heap.objs.size+3,s1.heap.objs.size,s1.heap.objs.size+1],_,_,H1,rfl,I2,turn_zip _ _ _ _ _ a b ap,⟨z1,t1,⟨_,_,o1⟩,l1,l2⟩,fun c hc=>?_,q⟩
   have hc':s1.heap.objs.size≤c:=by
    simp only [List.mem_cons,List.not_mem_nil,or_false] at hc
    rcases hc with rfl | rfl | rfl | rfl | rfl <;> first | exact Nat.le_refl _ | exact Nat.le_add_right _ _
   exact I1.fpOk hc' (I1.hok.fresh hc')
theorem for_zip {K:PySem.W.Frag} {a b:Addr} {xs ys:List V} {g:TG} {tb:TS} {D:Ends} {σ:St} {H:Hp} (Pv:Nat→St→Hp→Prop) (h0:Pv 0 σ H) (hlen:xs.length=ys.length) (hl:∀ i σ H,i≤xs.length→Pv i σ H→SqL K H a xs∧SqL K H b ys)
  (hs:∀ i x y σ H t,xs[i]?=some x→ys[i]?=some y→Pv i σ H→H t=none→g (.ref t) σ (upd H t (.tup [x,y])) fun σ2 H2=>tb { D with nx:=Pv (i+1),ct:=Pv (i+1),bk:=D.nx } σ2 H2) (hd:∀ σ H,Pv xs.length σ H→D.nx σ H) :
  ∃ W:Nat→Nat→St→Hp→Prop,(∃ m,W 0 m σ H)∧∀ i m σ H,W i m σ H →
   ((It2 K a b).stop i H∧D.nx σ H)∨((It2 K a b).go i H∧∃ N:St→Hp→Prop,(∀ σ' H',N σ' H'→∃ m',m' < m∧W (i+1) m' σ' H')∧∀ x H',(It2 K a b).yld i H x H'→g x σ H' fun σ2 H2=>tb { D with nx:=N,ct:=N,bk:=D.nx } σ2 H2):=by
 refine ⟨fun i m σ H=>m=xs.length - i∧i≤xs.length∧Pv i σ H,⟨xs.length,by simp,Nat.zero_le _,h0⟩,?_⟩
 rintro i m σ H ⟨rfl,hi,p⟩
 have q:=hl i σ H hi p
 by_cases hlt:i < xs.length
 ·have hlt2:i < ys.length:=by omega
  refine .inr ⟨⟨xs,ys,xs[i],ys[i],q.1,q.2,by simp [hlt],by simp [hlt2]⟩,Pv (i+1),fun σ' H' p'=>⟨xs.length - (i+1),by omega,rfl,hlt,p'⟩,fun x H' y=>?_⟩
  obtain ⟨t,u,v,rfl,ht,rfl,y1,y2⟩:=y
  exact hs i u v σ H t (y1 xs q.1) (y2 ys q.2) p ht
 ·have e:i=xs.length:=by omega
  subst e
  exact .inl ⟨⟨xs,ys,q.1,q.2,Nat.le_refl _⟩,hd σ H p⟩
end
section
variable {σ:St} {H:Hp} {ta:TA}
theorem r_izip {K:PySem.W.Frag} {R:It→Hp→Prop} (h:ta σ H fun vs H1=>∃ a b,vs=[.ref a,.ref b]∧(∃ xs,SqL K H1 a xs)∧(∃ ys,SqL K H1 b ys)∧R (It2 K a b) H1):iZip K ta σ H R:=h
end
end L2
namespace My
open PySem L2
theorem take_snocT {α:Type} {l:List α} {i:Nat} {x:α} (h:l[i]?=some x):l.take (i+1)=l.take i++[x]:=by
 rw [List.take_add_one,h];rfl
end My
namespace L2
open PySem PySem.Spec PyProof.Rows
theorem six_none (n d:Nat):HT.sIx n d none=d:=rfl
theorem six_some {n d:Nat} {x:Int} (h:0≤x):HT.sIx n d (some x)=min x.toNat n:=by
 show (if x < 0 then (x+(n:Int)).toNat else min x.toNat n)=_
 rw [if_neg (by omega)]
theorem cut_from {xs:List V} {n:Int} (h0:0≤n) (h:n≤xs.length):cutV xs (some n) none=xs.drop n.toNat:=by
 unfold cutV
 rw [six_some h0,six_none,Nat.min_eq_left (by omega),List.take_of_length_le (by rw [List.length_drop];exact Nat.le_refl _)]
theorem cut_mid {xs:List V} {m n:Int} (h0:0≤m) (h1:m≤n) (h:n≤xs.length):cutV xs (some m) (some n)=(xs.drop m.toNat).take (n.toNat - m.toNat):=by
 unfold cutV
 rw [six_some h0,six_some (by omega),Nat.min_eq_left (by omega),Nat.min_eq_left (by omega)]
end L2
namespace My
abbrev Bk:=List (List Int×Bool)
def saidO (kvs:List (List Int×Bool)) (ws:List Int):Option Bool:=(kvs.find? fun kv=>decide (kv.1=ws)).map (·.2)
theorem saidO_snoc (kn:Bk) (w:List Int) (b:Bool) (u:List Int):saidO (kn++[(w,b)]) u=(saidO kn u).or (if w=u then some b else none):=by
 unfold saidO
 rw [List.find?_append]
 cases h:kn.find? fun kv=>decide (kv.1=u) with
 | some x=>simp
 | none =>
  by_cases e:w=u
  ·simp [List.find?,e]
  ·simp [List.find?,e]
theorem saidO_mono {kn:Bk} {w u:List Int} {b c:Bool} (h:saidO kn u=some c):saidO (kn++[(w,b)]) u=some c:=by rw [saidO_snoc,h];rfl
theorem saidO_inv {kn:Bk} {w u:List Int} {b c:Bool} (h:saidO (kn++[(w,b)]) u=some c):saidO kn u=some c∨u=w:=by
 rw [saidO_snoc] at h
 cases hk:saidO kn u with
 | some x=>rw [hk] at h;exact .inl h
 | none =>
  rw [hk] at h
  by_cases e:w=u
  ·exact .inr e.symm
  ·rw [if_neg e] at h;cases h
theorem saidO_mem {kn:Bk} {u:List Int} {b:Bool} (h:saidO kn u=some b):u∈kn.map Prod.fst:=by
 unfold saidO at h
 obtain ⟨x,h1,h2⟩:=Option.map_eq_some_iff.mp h
 have:=List.find?_some h1
 exact List.mem_map.mpr ⟨x,List.mem_of_find?_eq_some h1,by simpa using this⟩
def edgesOf (d:Int) (h:List Int):List (List Int):=(List.range d.toNat).map fun (j:Nat)=>h++[(j:Int)]
def linesOf (d:Int) (heads:List (List Int)):List (List Int):=heads.flatMap fun h=>h :: edgesOf d h
def gapOf (kn:Bk) (tails:List (List Int)) (l:List Int):Option (List Int):=(tails.find? fun t=>(saidO kn (l++t)).isNone).map fun t=>l++t
def nextQ (d:Int) (kn:Bk) (heads tails:List (List Int)):Option (List Int):=(linesOf d heads).findSome? (gapOf kn tails)
def rowOf (kn:Bk) (tails:List (List Int)) (l:List Int):List Bool:=tails.map fun t=>(saidO kn (l++t)).getD false
def headRows (kn:Bk) (heads tails:List (List Int)):List (List Bool):=heads.map (rowOf kn tails)
def looseOf (d:Int) (kn:Bk) (heads tails:List (List Int)):Option (List Int):=(linesOf d heads).find? fun l=>!decide (rowOf kn tails l∈headRows kn heads tails)
def growN (d:Int) (kn:Bk) (tails:List (List Int)):Nat→List (List Int)→List (List Int)
 | 0,hs=>hs
 | n+1,hs=>match nextQ d kn hs tails with
  | some _=>hs
  | none=>match looseOf d kn hs tails with
   | none=>hs
   | some e=>growN d kn tails n (hs++[e])
def grow (d:Int) (kn:Bk) (tails heads:List (List Int)):List (List Int):=growN d kn tails 400 heads
def endsK (tails:List (List Int)) (w:List Int):Nat→List (List Int)
 | 0=>tails
 | k+1=>if w.drop (w.length - (k+1))∈endsK tails w k then endsK tails w k else endsK tails w k++[w.drop (w.length - (k+1))]
def ends (tails:List (List Int)) (w:List Int):List (List Int):=endsK tails w w.length
theorem linesOf_snoc (d:Int) (heads:List (List Int)) (h:List Int):linesOf d (heads++[h])=linesOf d heads++h :: edgesOf d h:=by
 unfold linesOf;rw [List.flatMap_append];simp
theorem edgesOf_len (d:Int) (h:List Int):(edgesOf d h).length=d.toNat:=by simp [edgesOf]
theorem linesOf_len (d:Int):∀ heads:List (List Int),(linesOf d heads).length=heads.length * (d.toNat+1)
 | []=>by simp [linesOf]
 | h :: r=>by
  show ((h :: edgesOf d h)++linesOf d r).length=_
  rw [List.length_append,linesOf_len d r,List.length_cons,edgesOf_len,List.length_cons,Nat.succ_mul];omega
theorem mem_lines {d:Int} {heads:List (List Int)} {l:List Int}:l∈linesOf d heads↔∃ h∈heads,l=h∨∃ x:Int,0≤x∧x < d∧l=h++[x]:=by
 unfold linesOf
 rw [List.mem_flatMap]
 constructor
 ·rintro ⟨h,hh,hl⟩
  refine ⟨h,hh,?_⟩
  rcases List.mem_cons.mp hl with e | e
  ·exact .inl e
  ·obtain ⟨j,hj,rfl⟩:=List.mem_map.mp e
   have:=List.mem_range.mp hj
   exact .inr ⟨j,by omega,by omega,rfl⟩
 ·rintro ⟨h,hh,hl⟩
  refine ⟨h,hh,?_⟩
  rcases hl with e | ⟨x,x0,x1,e⟩
  ·rw [e];exact List.mem_cons_self
  ·refine List.mem_cons_of_mem _ (List.mem_map.mpr ⟨x.toNat,List.mem_range.mpr (by omega),?_⟩)
   rw [e,Int.toNat_of_nonneg x0]
theorem lines_at (d:Int):∀ (heads:List (List Int)) (i j:Nat) (h:List Int),heads[i]?=some h→j≤d.toNat→(linesOf d heads)[i * (d.toNat+1)+j]?=(h :: edgesOf d h)[j]?
 | [],i,j,h,e,_=>by simp at e
 | g :: r,0,j,h,e,hj=>by
  simp at e;subst e
  show ((g :: edgesOf d g)++linesOf d r)[0 * (d.toNat+1)+j]?=_
  rw [Nat.zero_mul,Nat.zero_add,List.getElem?_append_left (by rw [List.length_cons,edgesOf_len];omega)]
 | g :: r,i+1,j,h,e,hj=>by
  show ((g :: edgesOf d g)++linesOf d r)[(i+1) * (d.toNat+1)+j]?=_
  have hl:(g :: edgesOf d g).length=d.toNat+1:=by rw [List.length_cons,edgesOf_len]
  rw [List.getElem?_append_right (by rw [hl,Nat.succ_mul];omega),hl,show (i+1) * (d.toNat+1)+j - (d.toNat+1)=i * (d.toNat+1)+j by rw [Nat.succ_mul];omega]
  exact lines_at d r i j h (by simpa using e) hj
theorem lines_head {d:Int} {heads:List (List Int)} {i:Nat} {h:List Int} (e:heads[i]?=some h):(linesOf d heads)[i * (d.toNat+1)]?=some h:=by
 have:=lines_at d heads i 0 h e (Nat.zero_le _);simpa using this
theorem lines_edge {d:Int} {heads:List (List Int)} {i j:Nat} {h:List Int} (e:heads[i]?=some h) (hj:j < d.toNat):(linesOf d heads)[i * (d.toNat+1)+1+j]?=some (h++[(j:Int)]):=by
 have:=lines_at d heads i (j+1) h e (by omega)
 rw [show i * (d.toNat+1)+1+j=i * (d.toNat+1)+(j+1) by omega,this,List.getElem?_cons_succ]
 unfold edgesOf
 rw [List.getElem?_map,List.getElem?_range hj];rfl
theorem gap_none {kn:Bk} {tails:List (List Int)} {l:List Int}:gapOf kn tails l=none↔∀ t∈tails,∃ b,saidO kn (l++t)=some b:=by
 unfold gapOf
 rw [Option.map_eq_none_iff,List.find?_eq_none]
 constructor
 ·intro h t ht
  have:=h t ht
  cases e:saidO kn (l++t) with
  | none=>rw [e] at this;simp at this
  | some b=>exact ⟨b,rfl⟩
 ·intro h t ht
  obtain ⟨b,e⟩:=h t ht
  rw [e];simp
theorem next_none {d:Int} {kn:Bk} {heads tails:List (List Int)}:nextQ d kn heads tails=none↔∀ l∈linesOf d heads,∀ t∈tails,∃ b,saidO kn (l++t)=some b:=by
 unfold nextQ
 rw [List.findSome?_eq_none_iff]
 exact ⟨fun h l hl=>gap_none.mp (h l hl),fun h l hl=>gap_none.mpr (h l hl)⟩
theorem next_some {d:Int} {kn:Bk} {heads tails:List (List Int)} {w:List Int} (h:nextQ d kn heads tails=some w):∃ l∈linesOf d heads,∃ t∈tails,w=l++t∧saidO kn w=none:=by
 unfold nextQ at h
 obtain ⟨l,hl,hg⟩:=List.exists_of_findSome?_eq_some h
 unfold gapOf at hg
 obtain ⟨t,ht,rfl⟩:=Option.map_eq_some_iff.mp hg
 have:=List.find?_some ht
 exact ⟨l,hl,t,List.mem_of_find?_eq_some ht,rfl,by simpa using this⟩
theorem loose_none {d:Int} {kn:Bk} {heads tails:List (List Int)}:looseOf d kn heads tails=none↔∀ l∈linesOf d heads,rowOf kn tails l∈headRows kn heads tails:=by
 unfold looseOf
 rw [List.find?_eq_none]
 constructor
 ·intro h l hl
  have:=h l hl
  simpa using this
 ·intro h l hl
  simpa using h l hl
theorem loose_some {d:Int} {kn:Bk} {heads tails:List (List Int)} {e:List Int} (h:looseOf d kn heads tails=some e):e∈linesOf d heads∧rowOf kn tails e∉headRows kn heads tails:=by
 unfold looseOf at h
 have:=List.find?_some h
 exact ⟨List.mem_of_find?_eq_some h,by simpa using this⟩
theorem growN_stop {d:Int} {kn:Bk} {tails heads:List (List Int)} (h:nextQ d kn heads tails≠none∨looseOf d kn heads tails=none):∀ n,growN d kn tails n heads=heads
 | 0=>rfl
 | n+1=>by
  unfold growN
  cases hq:nextQ d kn heads tails with
  | some w=>rfl
  | none =>
   rcases h with h | h
   ·exact absurd hq h
   ·simp only [h]
theorem growN_step {d:Int} {kn:Bk} {tails heads:List (List Int)} {e:List Int} (h1:nextQ d kn heads tails=none) (h2:looseOf d kn heads tails=some e) (n:Nat):growN d kn tails (n+1) heads=growN d kn tails n (heads++[e]):=by
 conv=>lhs;unfold growN
 simp only [h1,h2]
theorem nodup_sub {α:Type} [DecidableEq α]:∀ {l m:List α},l.Nodup→(∀ x∈l,x∈m)→l.length≤m.length
 | [],m,_,_=>by simp
 | x :: l,m,hn,h=>by
  obtain ⟨h1,h2⟩:=List.nodup_cons.mp hn
  have hx:=h x List.mem_cons_self
  have:=nodup_sub (l:=l) (m:=m.erase x) h2 fun y hy=>by
   have hyx:y≠x:=fun e=>h1 (by rw [← e];exact hy)
   exact (List.mem_erase_of_ne hyx).mpr (h y (List.mem_cons_of_mem _ hy))
  rw [List.length_erase_of_mem hx] at this
  have hm:0 < m.length:=List.length_pos_of_mem hx
  rw [List.length_cons];omega
structure LI (d:Int) (kn:Bk) (heads tails:List (List Int)):Prop where
 hd0:heads[0]?=some []
 tl0:tails[0]?=some []
 hok:∀ h∈heads,WordOk d h
 tok:∀ t∈tails,WordOk d t
 pre:∀ (i:Nat) h,heads[i+1]?=some h→∃ (j:Nat) (g:List Int) (x:Int),j≤i∧heads[j]?=some g∧0≤x∧x < d∧h=g++[x]
 suf:∀ x t,x :: t∈tails→t∈tails
 dis:∀ (i j:Nat) g h,i < j→heads[i]?=some g→heads[j]?=some h→∃ t∈tails,∃ b,saidO kn (g++t)=some b∧saidO kn (h++t)=some (!b)
 kno:∀ (j:Nat) h,heads[j+1]?=some h→∃ b,saidO kn h=some b
 src:∀ w b,saidO kn w=some b→∃ l∈linesOf d heads,∃ t∈tails,w=l++t
theorem LI.start (d:Int):LI d [] [[]] [[]] where
 hd0:=rfl
 tl0:=rfl
 hok:=fun h hh x hx=>by rw [List.mem_singleton.mp hh] at hx;exact nomatch hx
 tok:=fun h hh x hx=>by rw [List.mem_singleton.mp hh] at hx;exact nomatch hx
 pre:=fun i h e=>by simp at e
 suf:=fun x t h=>by simp at h
 dis:=fun i j g h hij e1 e2=>by
  have h1:=(List.getElem?_eq_some_iff.mp e2).1
  simp at h1;omega
 kno:=fun j h e=>by simp at e
 src:=fun w b e=>by simp [saidO] at e
section
variable {d:Int} {kn:Bk} {heads tails:List (List Int)}
theorem LI.nodup (I:LI d kn heads tails):heads.Nodup:=by
 rw [List.nodup_iff_pairwise_ne,List.pairwise_iff_getElem]
 intro i j hi hj hij e
 obtain ⟨t,_,b,h1,h2⟩:=I.dis i j _ _ hij (List.getElem?_eq_getElem hi) (List.getElem?_eq_getElem hj)
 rw [e,h2] at h1
 cases b <;> simp at h1
theorem LI.mem0 (I:LI d kn heads tails):[]∈heads:=List.mem_of_getElem? I.hd0
theorem LI.tmem0 (I:LI d kn heads tails):[]∈tails:=List.mem_of_getElem? I.tl0
theorem LI.len (I:LI d kn heads tails):heads.length≤kn.length+1:=by
 have hs:∃ r,heads=[] :: r:=by
  have:=I.hd0
  cases heads with
  | nil=>simp at this
  | cons a r=>simp at this;exact ⟨r,by rw [this]⟩
 obtain ⟨r,rfl⟩:=hs
 have hn:=(List.nodup_cons.mp I.nodup).2
 have:=nodup_sub (m:=kn.map Prod.fst) hn fun x hx=>by
  obtain ⟨j,hj⟩:=List.getElem?_of_mem hx
  obtain ⟨b,hb⟩:=I.kno j x (by rw [List.getElem?_cons_succ];exact hj)
  exact saidO_mem hb
 rw [List.length_map] at this
 rw [List.length_cons];omega
theorem LI.hlen (I:LI d kn heads tails):∀ (n i:Nat) (h:List Int),i≤n→heads[i]?=some h→h.length≤i
 | n,0,h,_,e=>by rw [I.hd0] at e;cases e;simp
 | 0,i+1,h,hn,e=>by omega
 | n+1,i+1,h,hn,e=>by
  obtain ⟨j,g,x,hj,hg,_,_,rfl⟩:=I.pre i h e
  have:=LI.hlen I n j g (by omega) hg
  rw [List.length_append,List.length_singleton];omega
theorem LI.hlenM (I:LI d kn heads tails) {h:List Int} (hh:h∈heads):h.length < heads.length:=by
 obtain ⟨i,hi⟩:=List.getElem?_of_mem hh
 have:=I.hlen i i h (Nat.le_refl _) hi
 have:=(List.getElem?_eq_some_iff.mp hi).1
 omega
theorem LI.lok (I:LI d kn heads tails) {l:List Int} (hl:l∈linesOf d heads):WordOk d l∧l.length≤heads.length:=by
 obtain ⟨h,hh,e⟩:=mem_lines.mp hl
 have h1:=I.hok h hh
 have h2:=I.hlenM hh
 rcases e with rfl | ⟨x,x0,x1,rfl⟩
 ·exact ⟨h1,by omega⟩
 ·refine ⟨fun y hy=>?_,by rw [List.length_append,List.length_singleton];omega⟩
  rcases List.mem_append.mp hy with hy | hy
  ·exact h1 y hy
  ·rw [List.mem_singleton.mp hy];exact ⟨x0,x1⟩
theorem wok_app {d:Int} {a b:List Int} (ha:WordOk d a) (hb:WordOk d b):WordOk d (a++b):=fun x hx=>by
 rcases List.mem_append.mp hx with h | h
 ·exact ha x h
 ·exact hb x h
theorem LI.qok (I:LI d kn heads tails) {w:List Int} (h:nextQ d kn heads tails=some w):WordOk d w∧saidO kn w=none:=by
 obtain ⟨l,hl,t,ht,rfl,e⟩:=next_some h
 exact ⟨wok_app (I.lok hl).1 (I.tok t ht),e⟩
theorem LI.note (I:LI d kn heads tails) {w:List Int} (b:Bool) (h:nextQ d kn heads tails=some w):LI d (kn++[(w,b)]) heads tails where
 hd0:=I.hd0
 tl0:=I.tl0
 hok:=I.hok
 tok:=I.tok
 pre:=I.pre
 suf:=I.suf
 dis:=fun i j g h hij e1 e2=>by
  obtain ⟨t,ht,c,h1,h2⟩:=I.dis i j g h hij e1 e2
  exact ⟨t,ht,c,saidO_mono h1,saidO_mono h2⟩
 kno:=fun j h e=>by
  obtain ⟨c,hc⟩:=I.kno j h e
  exact ⟨c,saidO_mono hc⟩
 src:=fun u c e=>by
  rcases saidO_inv e with e | e
  ·exact I.src u c e
  ·obtain ⟨l,hl,t,ht,e2,_⟩:=next_some h
   exact ⟨l,hl,t,ht,e.trans e2⟩
theorem row_ne {kn:Bk} {tails:List (List Int)} {g h:List Int} (hg:∀ t∈tails,∃ b,saidO kn (g++t)=some b) (hh:∀ t∈tails,∃ b,saidO kn (h++t)=some b) (hne:rowOf kn tails g≠rowOf kn tails h) :
  ∃ t∈tails,∃ b,saidO kn (g++t)=some b∧saidO kn (h++t)=some (!b):=by
 have:∃ t∈tails,(saidO kn (g++t)).getD false≠(saidO kn (h++t)).getD false:=by
  refine Classical.byContradiction fun hc=>hne ?_
  unfold rowOf
  refine List.map_congr_left fun t ht=>Classical.byContradiction fun z=>hc ⟨t,ht,z⟩
 obtain ⟨t,ht,e⟩:=this
 obtain ⟨b,hb⟩:=hg t ht
 obtain ⟨c,hc⟩:=hh t ht
 refine ⟨t,ht,b,hb,?_⟩
 rw [hb,hc] at e
 rw [hc]
 cases b <;> cases c <;> simp at e ⊢
theorem LI.grown (I:LI d kn heads tails) {e:List Int} (h1:nextQ d kn heads tails=none) (h2:looseOf d kn heads tails=some e):LI d kn (heads++[e]) tails:=by
 obtain ⟨he,hr⟩:=loose_some h2
 have hk:=next_none.mp h1
 obtain ⟨g,hg,hx⟩:=mem_lines.mp he
 have hx:∃ x:Int,0≤x∧x < d∧e=g++[x]:=by
  rcases hx with rfl | hx
  ·exact absurd (List.mem_map.mpr ⟨e,hg,rfl⟩) hr
  ·exact hx
 obtain ⟨x,x0,x1,ex⟩:=hx
 have hpos:0 < heads.length:=List.length_pos_of_mem I.mem0
 refine ⟨?_,I.tl0,fun h hh=>?_,I.tok,fun i h e'=>?_,I.suf,fun i j a b hij e1 e2=>?_,fun j h e'=>?_,fun w b e'=>?_⟩
 ·rw [List.getElem?_append_left hpos];exact I.hd0
 ·rcases List.mem_append.mp hh with hh | hh
  ·exact I.hok h hh
  ·rw [List.mem_singleton.mp hh];exact (I.lok he).1
 ·by_cases hi:i+1 < heads.length
  ·rw [List.getElem?_append_left hi] at e'
   obtain ⟨j,g',x',hj,hg',r⟩:=I.pre i h e'
   exact ⟨j,g',x',hj,by rw [List.getElem?_append_left (by omega)];exact hg',r⟩
  ·have hi2:i+1=heads.length:=by
    have:=(List.getElem?_eq_some_iff.mp e').1
    rw [List.length_append,List.length_singleton] at this;omega
   rw [hi2,List.getElem?_append_right (Nat.le_refl _),Nat.sub_self] at e'
   have e'':e=h:=by simpa using e'
   obtain ⟨j,hj⟩:=List.getElem?_of_mem hg
   have hjl:=(List.getElem?_eq_some_iff.mp hj).1
   exact ⟨j,g,x,by omega,by rw [List.getElem?_append_left hjl];exact hj,x0,x1,by rw [← e'',ex]⟩
 ·by_cases hj:j < heads.length
  ·rw [List.getElem?_append_left hj] at e2
   rw [List.getElem?_append_left (by omega)] at e1
   exact I.dis i j a b hij e1 e2
  ·have hj2:j=heads.length:=by
    have:=(List.getElem?_eq_some_iff.mp e2).1
    rw [List.length_append,List.length_singleton] at this;omega
   rw [List.getElem?_append_left (by omega)] at e1
   rw [hj2,List.getElem?_append_right (Nat.le_refl _),Nat.sub_self] at e2
   have e2:e=b:=by simpa using e2
   subst e2
   have ha:=List.mem_of_getElem? e1
   refine row_ne (hk a (mem_lines.mpr ⟨a,ha,.inl rfl⟩)) (hk e he) fun z=>hr ?_
   rw [← z];exact List.mem_map.mpr ⟨a,ha,rfl⟩
 ·by_cases hj:j+1 < heads.length
  ·rw [List.getElem?_append_left hj] at e';exact I.kno j h e'
  ·have hj2:j+1=heads.length:=by
    have:=(List.getElem?_eq_some_iff.mp e').1
    rw [List.length_append,List.length_singleton] at this;omega
   rw [hj2,List.getElem?_append_right (Nat.le_refl _),Nat.sub_self] at e'
   have e'':e=h:=by simpa using e'
   obtain ⟨b,hb⟩:=hk e he [] I.tmem0
   rw [List.append_nil] at hb
   exact ⟨b,by rw [← e''];exact hb⟩
 ·obtain ⟨l,hl,t,ht,r⟩:=I.src w b e'
  refine ⟨l,?_,t,ht,r⟩
  rw [linesOf_snoc];exact List.mem_append_left _ hl
theorem ends_mem {tails:List (List Int)} {w:List Int}:∀ {k:Nat} {t:List Int},t∈tails→t∈endsK tails w k
 | 0,t,h=>h
 | k+1,t,h=>by
  unfold endsK
  split
  ·exact ends_mem h
  ·exact List.mem_append_left _ (ends_mem h)
theorem ends_new {tails:List (List Int)} {w:List Int}:∀ {k j:Nat},0 < j→j≤k→w.drop (w.length - j)∈endsK tails w k
 | 0,j,h0,h=>by omega
 | k+1,j,h0,h=>by
  unfold endsK
  by_cases e:j=k+1
  ·subst e
   split
   ·assumption
   ·exact List.mem_append_right _ (List.mem_singleton.mpr rfl)
  ·have:=ends_new (tails:=tails) (w:=w) (k:=k) h0 (by omega)
   split
   ·exact this
   ·exact List.mem_append_left _ this
theorem ends_inv {tails:List (List Int)} {w:List Int}:∀ {k:Nat} {t:List Int},t∈endsK tails w k→t∈tails∨∃ j,0 < j∧j≤k∧t=w.drop (w.length - j)
 | 0,t,h=>.inl h
 | k+1,t,h=>by
  unfold endsK at h
  split at h
  ·rcases ends_inv h with h | ⟨j,h0,h1,e⟩
   ·exact .inl h
   ·exact .inr ⟨j,h0,by omega,e⟩
  ·rcases List.mem_append.mp h with h | h
   ·rcases ends_inv h with h | ⟨j,h0,h1,e⟩
    ·exact .inl h
    ·exact .inr ⟨j,h0,by omega,e⟩
   ·exact .inr ⟨k+1,by omega,Nat.le_refl _,List.mem_singleton.mp h⟩
theorem ends_pre {tails:List (List Int)} {w:List Int}:∀ (k:Nat),∃ r,endsK tails w k=tails++r∧r.length≤k
 | 0=>⟨[],by simp [endsK],by simp⟩
 | k+1=>by
  obtain ⟨r,e,hr⟩:=ends_pre (tails:=tails) (w:=w) k
  unfold endsK
  split
  ·exact ⟨r,e,by omega⟩
  ·exact ⟨r++[w.drop (w.length - (k+1))],by rw [e,List.append_assoc],by simp;omega⟩
theorem LI.told (I:LI d kn heads tails) {w:List Int} (b:Bool) (hw:WordOk d w) (hn:saidO kn w=none):LI d (kn++[(w,b)]) heads (ends tails w) where
 hd0:=I.hd0
 tl0:=by
  obtain ⟨r,e,_⟩:=ends_pre (tails:=tails) (w:=w) w.length
  unfold ends
  rw [e,List.getElem?_append_left (List.length_pos_of_mem I.tmem0)]
  exact I.tl0
 hok:=I.hok
 tok:=fun t ht x hx=>by
  rcases ends_inv ht with h | ⟨j,_,_,e⟩
  ·exact I.tok t h x hx
  ·rw [e] at hx;exact hw x (List.mem_of_mem_drop hx)
 pre:=I.pre
 suf:=fun x t h=>by
  rcases ends_inv h with h | ⟨j,h0,h1,e⟩
  ·exact ends_mem (I.suf x t h)
  ·by_cases hj:j=1
   ·subst hj
    have hl:=congrArg List.length e
    rw [List.length_cons,List.length_drop] at hl
    have:t=[]:=List.eq_nil_of_length_eq_zero (by omega)
    rw [this];exact ends_mem I.tmem0
   ·have e2:t=w.drop (w.length - (j - 1)):=by
     have:=congrArg List.tail e
     rw [List.tail_cons,List.tail_drop] at this
     rw [this];congr 1;omega
    rw [e2];exact ends_new (by omega) (by omega)
 dis:=fun i j g h hij e1 e2=>by
  obtain ⟨t,ht,c,h1,h2⟩:=I.dis i j g h hij e1 e2
  exact ⟨t,ends_mem ht,c,saidO_mono h1,saidO_mono h2⟩
 kno:=fun j h e=>by
  obtain ⟨c,hc⟩:=I.kno j h e
  exact ⟨c,saidO_mono hc⟩
 src:=fun u c e=>by
  rcases saidO_inv e with e | e
  ·obtain ⟨l,hl,t,ht,r⟩:=I.src u c e
   exact ⟨l,hl,t,ends_mem ht,r⟩
  ·refine ⟨[],mem_lines.mpr ⟨[],I.mem0,.inl rfl⟩,u,?_,rfl⟩
   rw [e]
   by_cases hw0:w=[]
   ·rw [hw0];exact ends_mem I.tmem0
   ·have hp:0 < w.length:=List.length_pos_iff.mpr hw0
    have:=ends_new (tails:=tails) (w:=w) (k:=w.length) hp (Nat.le_refl _)
    rw [Nat.sub_self,List.drop_zero] at this
    exact this
end
end My
namespace My
def ixR (kn:Bk) (heads tails:List (List Int)) (l:List Int):Int:=(((headRows kn heads tails).findIdx fun r=>decide (r=rowOf kn tails l):Nat):Int)
def guessW (d:Int) (kn:Bk) (heads tails:List (List Int)):List (List Int):=heads.map fun h=>(edgesOf d h).map (ixR kn heads tails)
def guessL (kn:Bk) (heads:List (List Int)):List Bool:=heads.map fun h=>(saidO kn h).getD false
structure Closed (d:Int) (kn:Bk) (heads tails:List (List Int)):Prop where
 q:nextQ d kn heads tails=none
 l:looseOf d kn heads tails=none
def lampW (rss:List (List Int)) (ls:List Bool) (w:List Int):Bool:=ls.getD (walkI rss 0 w).toNat false
theorem row_eq {kn:Bk} {tails:List (List Int)} {g h:List Int} (e:rowOf kn tails g=rowOf kn tails h):∀ t∈tails,(saidO kn (g++t)).getD false=(saidO kn (h++t)).getD false:=by
 unfold rowOf at e
 exact fun t ht=>List.map_inj_left.mp e t ht
section
variable {d:Int} {kn:Bk} {heads tails:List (List Int)}
theorem LI.rne (I:LI d kn heads tails) {i j:Nat} {g h:List Int} (hij:i < j) (e1:heads[i]?=some g) (e2:heads[j]?=some h):rowOf kn tails g≠rowOf kn tails h:=fun z=>by
 obtain ⟨t,ht,b,h1,h2⟩:=I.dis i j g h hij e1 e2
 have:=row_eq z t ht
 rw [h1,h2] at this
 cases b <;> simp at this
theorem LI.ix_head (I:LI d kn heads tails) {i:Nat} {h:List Int} (e:heads[i]?=some h) {l:List Int} (hr:rowOf kn tails h=rowOf kn tails l):ixR kn heads tails l=i:=by
 unfold ixR
 obtain ⟨hi,eh⟩:=List.getElem?_eq_some_iff.mp e
 have hi':i < (headRows kn heads tails).length:=by unfold headRows;rw [List.length_map];exact hi
 have:(headRows kn heads tails).findIdx (fun r=>decide (r=rowOf kn tails l))=i:=by
  rw [List.findIdx_eq hi']
  have gm:∀ (j:Nat) (hj:j < (headRows kn heads tails).length) (hj2:j < heads.length),(headRows kn heads tails)[j]=rowOf kn tails heads[j]:=fun j hj hj2=>by simp [headRows]
  refine ⟨by rw [gm i hi' hi,eh];simpa using hr,fun j hj=>?_⟩
  rw [gm j (by omega) (by omega)]
  have:=I.rne hj (List.getElem?_eq_getElem (by omega)) e
  rw [hr] at this
  simpa using this
 rw [this]
theorem LI.ix_ok (I:LI d kn heads tails) (C:Closed d kn heads tails) {l:List Int} (hl:l∈linesOf d heads):∃ (i:Nat) (h:List Int),heads[i]?=some h∧ixR kn heads tails l=i∧rowOf kn tails h=rowOf kn tails l:=by
 have:=loose_none.mp C.l l hl
 obtain ⟨h,hh,e⟩:=List.mem_map.mp this
 obtain ⟨i,hi⟩:=List.getElem?_of_mem hh
 exact ⟨i,h,hi,I.ix_head hi e,e⟩
theorem edge_get {h:List Int} {x:Int} (x0:0≤x) (x1:x < d):(edgesOf d h)[x.toNat]?=some (h++[x]):=by
 unfold edgesOf
 rw [List.getElem?_map,List.getElem?_range (by omega)]
 simp [Int.toNat_of_nonneg x0]
theorem guess_step {i:Nat} {h:List Int} (e:heads[i]?=some h) {x:Int} (x0:0≤x) (x1:x < d):step (guessW d kn heads tails) (i:Int) x=ixR kn heads tails (h++[x]):=by
 unfold step guessW
 simp only [Int.toNat_natCast,List.getD_eq_getElem?_getD,List.getElem?_map,e,Option.map_some,Option.getD_some,edge_get x0 x1]
theorem edge_line {h:List Int} (hh:h∈heads) {x:Int} (x0:0≤x) (x1:x < d):h++[x]∈linesOf d heads:=mem_lines.mpr ⟨h,hh,.inr ⟨x,x0,x1,rfl⟩⟩
theorem LI.walk_tail (I:LI d kn heads tails) (C:Closed d kn heads tails):∀ (t:List Int),t∈tails→∀ (i:Nat) (h:List Int),heads[i]?=some h →
  ∃ (j:Nat) (g:List Int),heads[j]?=some g∧walkI (guessW d kn heads tails) (i:Int) t=j∧saidO kn g=saidO kn (h++t)
 | [],_,i,h,e=>⟨i,h,e,rfl,by rw [List.append_nil]⟩
 | x :: t,ht,i,h,e=>by
  have hx:=I.tok _ ht x List.mem_cons_self
  have hl:=edge_line (List.mem_of_getElem? e) hx.1 hx.2
  obtain ⟨j,g,hj,ej,er⟩:=I.ix_ok C hl
  have ht':=I.suf x t ht
  obtain ⟨k,f,hk,ek,es⟩:=I.walk_tail C t ht' j g hj
  refine ⟨k,f,hk,?_,?_⟩
  ·show walkI _ (step _ (i:Int) x) t=_
   rw [guess_step e hx.1 hx.2,ej,ek]
  ·rw [es]
   have:=row_eq er t ht'
   have all:=next_none.mp C.q
   obtain ⟨b,hb⟩:=all g (mem_lines.mpr ⟨g,List.mem_of_getElem? hj,.inl rfl⟩) t ht'
   obtain ⟨c,hc⟩:=all _ hl t ht'
   rw [hb,hc] at this
   rw [hb,show h++x :: t=h++[x]++t by simp,hc]
   simpa using this
theorem LI.walk_head (I:LI d kn heads tails) (C:Closed d kn heads tails):∀ (n i:Nat) (h:List Int),i≤n→heads[i]?=some h→walkI (guessW d kn heads tails) 0 h=i
 | n,0,h,_,e=>by rw [I.hd0] at e;cases e;rfl
 | 0,i+1,h,hn,e=>by omega
 | n+1,i+1,h,hn,e=>by
  obtain ⟨j,g,x,hj,hg,x0,x1,rfl⟩:=I.pre i h e
  rw [walkI_snoc,LI.walk_head I C n j g (by omega) hg,guess_step hg x0 x1]
  exact I.ix_head e rfl
theorem guessL_get {j:Nat} {g:List Int} {b:Bool} (hg:heads[j]?=some g) (hb:saidO kn g=some b):(guessL kn heads).getD ((j:Int)).toNat false=b:=by
 unfold guessL
 rw [Int.toNat_natCast,List.getD_eq_getElem?_getD,List.getElem?_map,hg,Option.map_some,Option.getD_some,hb]
 rfl
theorem LI.says (I:LI d kn heads tails) (C:Closed d kn heads tails) {w:List Int} {b:Bool} (hw:saidO kn w=some b):lampW (guessW d kn heads tails) (guessL kn heads) w=b:=by
 obtain ⟨l,hl,t,ht,rfl⟩:=I.src w b hw
 obtain ⟨h,hh,e⟩:=mem_lines.mp hl
 obtain ⟨i,hi⟩:=List.getElem?_of_mem hh
 unfold lampW
 rw [walkI_app]
 rcases e with rfl | ⟨x,x0,x1,rfl⟩
 ·rw [I.walk_head C i i l (Nat.le_refl _) hi]
  obtain ⟨j,g,hj,ej,es⟩:=I.walk_tail C t ht i l hi
  rw [ej]
  exact guessL_get hj (es.trans hw)
 ·rw [walkI_snoc,I.walk_head C i i h (Nat.le_refl _) hi,guess_step hi x0 x1]
  obtain ⟨k,f,hk,ek,er⟩:=I.ix_ok C hl
  rw [ek]
  obtain ⟨j,g,hj,ej,es⟩:=I.walk_tail C t ht k f hk
  rw [ej]
  have:=row_eq er t ht
  obtain ⟨c,hc⟩:=next_none.mp C.q f (mem_lines.mpr ⟨f,List.mem_of_getElem? hk,.inl rfl⟩) t ht
  rw [hc,hw] at this
  refine guessL_get hj ?_
  rw [es,hc]
  simpa using this
theorem LI.valid (I:LI d kn heads tails) (C:Closed d kn heads tails) (h1:1≤d) (h6:d≤6) (h4:heads.length≤400):Valid d (guessW d kn heads tails) (guessL kn heads) where
 row:=fun row hr=>by
  obtain ⟨h,hh,rfl⟩:=List.mem_map.mp hr
  refine ⟨by rw [List.length_map,edgesOf_len];omega,fun x hx=>?_⟩
  obtain ⟨l,hl,rfl⟩:=List.mem_map.mp hx
  obtain ⟨j,hj,rfl⟩:=List.mem_map.mp hl
  have:=List.mem_range.mp hj
  obtain ⟨i,g,hi,ei,_⟩:=I.ix_ok C (edge_line hh (x:=(j:Int)) (by omega) (by omega))
  rw [ei]
  have:=(List.getElem?_eq_some_iff.mp hi).1
  unfold guessW
  rw [List.length_map]
  omega
 d1:=h1
 d6:=h6
 r1:=by unfold guessW;rw [List.length_map];exact List.length_pos_of_mem I.mem0
 r400:=by unfold guessW;rw [List.length_map];exact h4
 ll:=by unfold guessW guessL;rw [List.length_map,List.length_map]
end
structure RowsOk (d:Int) (kn:Bk) (heads tails:List (List Int)) (rows:List (List Bool)) (f:Nat):Prop where
 len:rows.length=(linesOf d heads).length
 row:∀ (k:Nat) r l,rows[k]?=some r→(linesOf d heads)[k]?=some l→r.length≤tails.length∧r.map some=(tails.take r.length).map fun t=>saidO kn (l++t)
 full:∀ (k:Nat) r,k < f→rows[k]?=some r→r.length=tails.length
 fle:f≤rows.length
section
variable {d:Int} {kn:Bk} {heads tails:List (List Int)} {rows:List (List Bool)} {f:Nat}
theorem row_of_some {r:List Bool} {l:List Int} (h:r.map some=tails.map fun t=>saidO kn (l++t)):r=rowOf kn tails l:=by
 unfold rowOf
 have:=congrArg (List.map fun o:Option Bool=>o.getD false) h
 rw [List.map_map,List.map_map] at this
 rw [← show r.map ((fun o:Option Bool=>o.getD false) ∘ some)=r by rw [show ((fun o:Option Bool=>o.getD false) ∘ some)=id from rfl,List.map_id]]
 exact this
theorem RowsOk.full_gap (R:RowsOk d kn heads tails rows f) {k:Nat} {r:List Bool} {l:List Int} (hr:rows[k]?=some r) (hl:(linesOf d heads)[k]?=some l) (he:r.length=tails.length):gapOf kn tails l=none∧r=rowOf kn tails l:=by
 obtain ⟨_,h2⟩:=R.row k r l hr hl
 rw [he,List.take_length] at h2
 refine ⟨gap_none.mpr fun t ht=>?_,row_of_some h2⟩
 obtain ⟨i,hi⟩:=List.getElem?_of_mem ht
 have e:=congrArg (fun z:List (Option Bool)=>z[i]?) h2
 simp only [List.getElem?_map,hi,Option.map_some] at e
 cases hri:r[i]? with
 | none=>rw [hri] at e;simp at e
 | some b=>rw [hri] at e;simp at e;exact ⟨b,e.symm⟩
theorem RowsOk.all (R:RowsOk d kn heads tails rows rows.length):nextQ d kn heads tails=none∧rows=(linesOf d heads).map (rowOf kn tails):=by
 constructor
 ·unfold nextQ
  rw [List.findSome?_eq_none_iff]
  intro l hl
  obtain ⟨k,hk⟩:=List.getElem?_of_mem hl
  have hk2:k < rows.length:=by rw [R.len];exact (List.getElem?_eq_some_iff.mp hk).1
  have hr:=List.getElem?_eq_getElem hk2
  exact (R.full_gap hr hk (R.full k _ hk2 hr)).1
 ·apply List.ext_getElem
  ·rw [R.len,List.length_map]
  ·intro k h1 h2
   rw [List.getElem_map]
   rw [List.length_map] at h2
   have hr:=List.getElem?_eq_getElem h1
   exact (R.full_gap hr (List.getElem?_eq_getElem h2) (R.full k _ h1 hr)).2
theorem RowsOk.next (R:RowsOk d kn heads tails rows f) {l w:List Int} (hl:(linesOf d heads)[f]?=some l) (hg:gapOf kn tails l=some w):nextQ d kn heads tails=some w:=by
 unfold nextQ
 have hf:f < (linesOf d heads).length:=(List.getElem?_eq_some_iff.mp hl).1
 have e:linesOf d heads=(linesOf d heads).take f++l :: (linesOf d heads).drop (f+1):=by
  conv=>lhs;rw [← List.take_append_drop f (linesOf d heads)]
  rw [List.drop_eq_getElem_cons hf]
  congr 2
  rw [List.getElem?_eq_getElem hf] at hl
  exact Option.some.inj hl
 rw [e,List.findSome?_append]
 have h0:((linesOf d heads).take f).findSome? (gapOf kn tails)=none:=by
  rw [List.findSome?_eq_none_iff]
  intro x hx
  obtain ⟨k,hk⟩:=List.getElem?_of_mem hx
  have hkf:k < f:=by
   have:=(List.getElem?_eq_some_iff.mp hk).1
   rw [List.length_take] at this;omega
  rw [List.getElem?_take_of_lt hkf] at hk
  have hk2:k < rows.length:=by rw [R.len];exact (List.getElem?_eq_some_iff.mp hk).1
  have hr:=List.getElem?_eq_getElem hk2
  exact (R.full_gap hr hk (R.full k _ hkf hr)).1
 rw [h0]
 simp [hg]
theorem RowsOk.set (R:RowsOk d kn heads tails rows f) {k:Nat} {l:List Int} {r:List Bool} (hl:(linesOf d heads)[k]?=some l) (h1:r.length≤tails.length) (h2:r.map some=(tails.take r.length).map fun t=>saidO kn (l++t)) (h3:k < f→r.length=tails.length):RowsOk d kn heads tails (rows.set k r) f where
 len:=by rw [List.length_set];exact R.len
 row:=fun j q l' e1 e2=>by
  by_cases hj:k=j
  ·subst hj
   rw [List.getElem?_set_self (by rw [R.len];exact (List.getElem?_eq_some_iff.mp hl).1)] at e1
   cases e1
   rw [hl] at e2;cases e2
   exact ⟨h1,h2⟩
  ·rw [List.getElem?_set_ne hj] at e1
   exact R.row j q l' e1 e2
 full:=fun j q hj e=>by
  by_cases hk:k=j
  ·subst hk
   have hlt:=(List.getElem?_eq_some_iff.mp e).1
   rw [List.length_set] at hlt
   rw [List.getElem?_set_self hlt] at e
   cases e
   exact h3 hj
  ·rw [List.getElem?_set_ne hk] at e
   exact R.full j q hj e
 fle:=by rw [List.length_set];exact R.fle
theorem RowsOk.succ (R:RowsOk d kn heads tails rows f) (hf:f < rows.length) (h:∀ r,rows[f]?=some r→r.length=tails.length):RowsOk d kn heads tails rows (f+1) :=
 ⟨R.len,R.row,fun k r hk e=>by
  by_cases hkf:k=f
  ·subst hkf;exact h r e
  ·exact R.full k r (by omega) e,hf⟩
theorem RowsOk.note (R:RowsOk d kn heads tails rows f) (w:List Int) (b:Bool):RowsOk d (kn++[(w,b)]) heads tails rows f:=by
 refine ⟨R.len,fun k r l e1 e2=>?_,R.full,R.fle⟩
 obtain ⟨h1,h2⟩:=R.row k r l e1 e2
 refine ⟨h1,?_⟩
 rw [h2]
 apply List.ext_getElem?
 intro i
 have e:=congrArg (fun z:List (Option Bool)=>z[i]?) h2
 simp only [List.getElem?_map] at e ⊢
 cases ht:(tails.take r.length)[i]? with
 | none=>rfl
 | some t =>
  rw [ht] at e
  cases hr:r[i]? with
  | none=>rw [hr] at e;simp at e
  | some c =>
   rw [hr] at e
   simp at e
   simp only [Option.map_some]
   rw [← e,saidO_mono e.symm]
theorem RowsOk.head (R:RowsOk d kn heads tails rows f) (h:List Int):RowsOk d kn (heads++[h]) tails (rows++List.replicate (d.toNat+1) []) f:=by
 refine ⟨?_,fun k r l e1 e2=>?_,fun k r hk e=>?_,?_⟩
 ·rw [linesOf_snoc,List.length_append,List.length_append,R.len,List.length_replicate,List.length_cons,edgesOf_len]
 ·rw [linesOf_snoc] at e2
  by_cases hk:k < rows.length
  ·rw [List.getElem?_append_left hk] at e1
   rw [List.getElem?_append_left (by rw [← R.len];exact hk)] at e2
   exact R.row k r l e1 e2
  ·rw [List.getElem?_append_right (by omega)] at e1
   have:r=[]:=(List.mem_replicate.mp (List.mem_of_getElem? e1)).2
   subst this
   simp
 ·have:=R.fle
  rw [List.getElem?_append_left (by omega)] at e
  exact R.full k r hk e
 ·have:=R.fle
  rw [List.length_append];omega
theorem RowsOk.more (R:RowsOk d kn heads tails rows f) (r':List (List Int)):RowsOk d kn heads (tails++r') rows 0:=by
 refine ⟨R.len,fun k r l e1 e2=>?_,fun k r hk e=>by omega,Nat.zero_le _⟩
 obtain ⟨h1,h2⟩:=R.row k r l e1 e2
 refine ⟨by rw [List.length_append];omega,?_⟩
 rw [List.take_append_of_le_length h1]
 exact h2
theorem pre_known {r:List Bool} {l:List Int} (h:r.map some=(tails.take r.length).map fun t=>saidO kn (l++t)):∀ t∈tails.take r.length,∃ b,saidO kn (l++t)=some b:=fun t ht=>by
 obtain ⟨i,hi⟩:=List.getElem?_of_mem ht
 have e:=congrArg (fun z:List (Option Bool)=>z[i]?) h
 simp only [List.getElem?_map,hi,Option.map_some] at e
 cases hri:r[i]? with
 | none=>rw [hri] at e;simp at e
 | some b=>rw [hri] at e;simp at e;exact ⟨b,e.symm⟩
theorem gap_at {r:List Bool} {l t:List Int} (h:r.map some=(tails.take r.length).map fun t=>saidO kn (l++t)) (ht:tails[r.length]?=some t) (hn:saidO kn (l++t)=none):gapOf kn tails l=some (l++t):=by
 have hlt:r.length < tails.length:=(List.getElem?_eq_some_iff.mp ht).1
 have e:tails=tails.take r.length++t :: tails.drop (r.length+1):=by
  conv=>lhs;rw [← List.take_append_drop r.length tails]
  rw [List.drop_eq_getElem_cons hlt]
  congr 2
  rw [List.getElem?_eq_getElem hlt] at ht
  exact Option.some.inj ht
 have h0:(tails.take r.length).find? (fun t=>(saidO kn (l++t)).isNone)=none:=by
  rw [List.find?_eq_none]
  intro u hu
  obtain ⟨b,hb⟩:=pre_known h u hu
  rw [hb];simp
 unfold gapOf
 rw [e,List.find?_append,h0,List.find?_cons_of_pos (by rw [hn];rfl)]
 rfl
theorem row_more {r:List Bool} {l t:List Int} {b:Bool} (h:r.map some=(tails.take r.length).map fun t=>saidO kn (l++t)) (ht:tails[r.length]?=some t) (hb:saidO kn (l++t)=some b) :
  (r++[b]).length≤tails.length∧(r++[b]).map some=(tails.take (r++[b]).length).map fun t=>saidO kn (l++t):=by
 have hlt:r.length < tails.length:=(List.getElem?_eq_some_iff.mp ht).1
 rw [List.length_append,List.length_singleton]
 refine ⟨hlt,?_⟩
 rw [List.take_add_one,ht,List.map_append,List.map_append,h]
 simp [hb]
theorem row_end {r:List Bool} {l:List Int} (h:r.map some=(tails.take r.length).map fun t=>saidO kn (l++t)) (hl:r.length=tails.length):gapOf kn tails l=none∧r=rowOf kn tails l:=by
 have hk:=pre_known h
 rw [hl,List.take_length] at h hk
 exact ⟨gap_none.mpr hk,row_of_some h⟩
end
theorem closed_of {d:Int} {kn:Bk} {heads tails:List (List Int)} (h:nextQ d kn heads tails≠none∨looseOf d kn heads tails=none) (hq:nextQ d kn heads tails=none):Closed d kn heads tails:=⟨hq,h.resolve_left fun z=>z hq⟩
end My
namespace L2
open PySem PySem.Spec PyProof.Rows
def isBoolOf (b:Bool) (v:Value):Bool:=match v with
 | .bool c=>c == b
 | _=>false
theorem isBoolOf_shape {b:Bool} {v:Value} (h:isBoolOf b v=true):v=.bool b:=by cases v <;> simp_all [isBoolOf]
theorem hash_bool {prog:Program} {w:World} {A:Around} {E:Value→Shared→Prop} {s:Shared} {b:Bool} {Q:Int→Shared→Prop} (h:Q (reduceHash (if b then 1 else 0)) { s with toks:=s.toks+1 }):wpAny (model prog w) A (PySem.pyHash (.bool b)) Q E s:=by
 refine PySem.W.pyHash_slot (T:="bool") rfl F.slot_bool_hash entry_int_hash (args_int_hash _) (beq_builtin_none _) (.inl rfl) ?_
 cases b
 ·exact (show wpAny _ _ (do ret (← mkInt 0)) _ _ s from wpAny_bind (wpAny_mkInt (wpAny_pure ⟨_,_,rfl,h⟩)))
 ·exact (show wpAny _ _ (do ret (← mkInt 1)) _ _ s from wpAny_bind (wpAny_mkInt (wpAny_pure ⟨_,_,rfl,h⟩)))
def boolKind (prog:Program) (w:World):PySem.KeyKind prog w Bool where
 is:=isBoolOf
 hash:=fun b=>reduceHash (if b then 1 else 0)
 inj:=fun v a b ha hb=>by
  have h1:=isBoolOf_shape ha
  rw [isBoolOf_shape hb] at h1
  injection h1 with h1
  exact h1.symm
 byValue:=fun k v h=>by rw [isBoolOf_shape h];rfl
 pyHash:=fun hv h=>by rw [isBoolOf_shape hv];exact hash_bool h
 eqBool:=fun {A E s a b u v Q} hu hv h=>by
  rw [isBoolOf_shape hu,isBoolOf_shape hv]
  refine SeqAt.EqAt.bool_bool a b _ _ _ _ ?_
  have e:(a == b)=decide (a=b):=by cases a <;> cases b <;> rfl
  rw [e];exact h
 «strs»:=fun k x t v h=>by simp [isBoolOf] at h
theorem Room.u16 {k:Nat} {A:Around} (r:Room k A):A.units+16 < cLine:=by have:=r.un;omega
theorem Room.u80 {k:Nat} {A:Around} (r:Room k A):A.units+80 < cLine:=by have:=r.un;omega
structure KD (P:Program) (w:World) (κ:Type) [DecidableEq κ] where
 kd:HeapKind P w κ
 ok:Hp→κ→Addr→Prop
 is:∀ {H:Hp} {h:Heap} {k:κ} {a:Addr},HOk P w H h→ok H k a→kd.is h k a
 keep:∀ {H H':Hp} {k:κ} {a:Addr},(∀ b ys,H b=some (.tup ys)→H' b=some (.tup ys))→ok H k a→ok H' k a
 room:∀ {A:Around},A.units+16 < cLine→kd.room A.in1
section
variable {P:Program} {w:World} {κ:Type} [DecidableEq κ]
def DGAt (D:KD P w κ) (a:Addr) (xs:List (κ×Addr×Value)):Heap→Prop:=fun h=>∃ o es ep,h.get? a=some o∧o.ExactDict∧o.data=.dict es ep∧es.toList=xs.map (entryOfKey D.kd)∧(xs.map (·.1)).Nodup
abbrev KG (D:KD P w κ) (H:Hp):List (κ×V)→List (κ×Addr×Value)→Prop:=Paired fun p q=>p.1=q.1∧D.ok H q.1 q.2.1∧RelV p.2 q.2.2
def DG (D:KD P w κ) (H:Hp) (a:Addr) (kvs:List (κ×V)):Prop:=∃ xs,H a=some (.ext (DGAt D a xs))∧KG D H kvs xs∧(a == sysModules)=false∧kvs.length≤sizeLine
theorem KG.val {D:KD P w κ} {H:Hp} {kvs:List (κ×V)} {xs:List (κ×Addr×Value)} (r:KG D H kvs xs) (k:κ):RelO (valV kvs k) ((atKey xs k).map (·.2)):=by
 induction r with
 | nil=>exact True.intro
 | @cons p q ps qs h t ih =>
  obtain ⟨h1,_,h2⟩:=h
  by_cases e:p.1=k
  ·have e':q.1=k:=h1.symm.trans e
   have b:atKey (q :: qs) k=some q.2:=by simp [atKey,List.find?_cons,e']
   rw [valV_pos e,b];exact h2
  ·have e':¬ q.1=k:=fun z=>e (h1.trans z)
   have b:atKey (q :: qs) k=atKey qs k:=by simp [atKey,List.find?_cons,e']
   rw [valV_neg e,b];exact ih
theorem KG.repl {D:KD P w κ} {H:Hp} {kvs:List (κ×V)} {xs:List (κ×Addr×Value)} (r:KG D H kvs xs) (k:κ) {y:V} {u:Value} (ry:RelV y u) :
  KG D H (kvs.map fun kv=>if kv.1=k then (kv.1,y) else kv) (xs.map (putAt k u)):=by
 induction r with
 | nil=>exact .nil
 | @cons p q ps qs h t ih =>
  rw [List.map_cons,List.map_cons]
  refine .cons ?_ ih
  obtain ⟨h1,h2,h3⟩:=h
  unfold putAt
  by_cases e:p.1=k
  ·rw [if_pos e,if_pos (h1.symm.trans e)];exact ⟨h1,h2,ry⟩
  ·rw [if_neg e,if_neg (fun z=>e (h1.trans z))];exact ⟨h1,h2,h3⟩
theorem KG.put {D:KD P w κ} {H:Hp} {kvs:List (κ×V)} {xs:List (κ×Addr×Value)} (r:KG D H kvs xs) (k:κ) {b:Addr} {y:V} {u:Value} (hb:D.ok H k b) (ry:RelV y u) :
  KG D H (putK kvs k y) (storedH xs k b u):=by
 have e:(kvs.any fun kv=>decide (kv.1=k))=(atKey xs k).isSome:=by
  rw [valV_any,(r.val k).isSome_eq,Option.isSome_map]
 unfold putK storedH
 rw [e]
 by_cases q:(atKey xs k).isSome=true
 ·rw [if_pos q,if_pos q];exact r.repl k ry
 ·rw [if_neg q,if_neg q];exact Paired.snoc r ⟨rfl,hb,ry⟩
theorem KG.keeps {D:KD P w κ} {H H':Hp} {kvs:List (κ×V)} {xs:List (κ×Addr×Value)} (r:KG D H kvs xs) (ht:∀ b ys,H b=some (.tup ys)→H' b=some (.tup ys)):KG D H' kvs xs :=
 Paired.mapP r fun _ _ z=>⟨z.1,D.keep ht z.2.1,z.2.2⟩
theorem DG.same {D:KD P w κ} {H H':Hp} {a:Addr} {kvs:List (κ×V)} (e:Same H H') (d:DG D H a kvs):DG D H' a kvs:=by
 obtain ⟨xs,h1,h2,h3⟩:=d
 exact ⟨xs,e _ _ h1,h2.keeps fun b ys q=>e _ _ q,h3⟩
theorem DG.at {D:KD P w κ} {H:Hp} {h:Heap} {a:Addr} {kvs:List (κ×V)} {xs:List (κ×Addr×Value)} (ok:HOk P w H h) (h1:H a=some (.ext (DGAt D a xs))) (r:KG D H kvs xs):h.DictOfH D.kd a xs:=by
 obtain ⟨⟨o,es,ep,g1,g2,g3,g4,g5⟩,_⟩:=(show ObjOk P w H h a (.ext (DGAt D a xs)) from ok a _ h1)
 refine ⟨o,es,ep,g1,g2,g3,g4,fun x hx=>?_,g5⟩
 have all:∀ {l:List (κ×V)} {m:List (κ×Addr×Value)},KG D H l m→∀ x∈m,D.kd.is h x.1 x.2.1:=by
  intro l m q
  induction q with
  | nil=>intro x hx;exact nomatch hx
  | @cons p q ps qs hq t ih =>
   intro x hx
   rcases List.mem_cons.mp hx with e | hx
   ·subst e
    exact D.is ok hq.2.1
   ·exact ih x hx
 exact all r x hx
theorem dg_ext {D:KD P w κ} {a:Addr} {xs:List (κ×Addr×Value)} {h:Heap} (hh:DGAt D a xs h):DGAt D a xs h∧(∃ o,h.get? a=some o)∧∀ h1 h2:Heap,DGAt D a xs h1→(∀ o,h1.get? a=some o→h2.get? a=some o)→DGAt D a xs h2:=by
 refine ⟨hh,?_,fun h1 h2 x k=>?_⟩
 ·obtain ⟨o,_,_,e,_⟩:=hh;exact ⟨o,e⟩
 ·obtain ⟨o,es,ep,e,r⟩:=x
  exact ⟨o,es,ep,k o e,r⟩
def tDNewG (D:KD P w κ):TE:=fun _ H Q=>∀ p,H p=none→DG D (upd H p (.ext (DGAt D p []))) p []→Q (.ref p) (upd H p (.ext (DGAt D p [])))
def tGNotIn (D:KD P w κ) (ty td:TE):TE:=fun σ H Q=>ty σ H fun y H1=>td σ H1 fun x H2=>∃ a b k kvs,x=.ref a∧y=.ref b∧D.ok H2 k b∧DG D H2 a kvs∧Q (.bl (!(valV kvs k).isSome)) H2
def tGGet (D:KD P w κ) (td ty:TE):TE:=fun σ H Q=>td σ H fun x H1=>ty σ H1 fun y H2=>∃ a b k kvs v,x=.ref a∧y=.ref b∧D.ok H2 k b∧DG D H2 a kvs∧valV kvs k=some v∧Q v H2
def sGPut (D:KD P w κ) (td ty tv:TE):TS:=fun E σ H=>tv σ H fun v H1=>td σ H1 fun x H2=>ty σ H2 fun y H3=>∃ a b k kvs,x=.ref a∧y=.ref b∧D.ok H3 k b∧DG D H3 a kvs∧kvs.length < sizeLine ∧
 ∀ H4,(∀ c,c≠a→H4 c=H3 c)→DG D H4 a (putK kvs k v)→E.nx σ H4
section
variable {X:Cx} {o i value:Expr} {pos pos':Pos} {td ty tv:TE}
theorem pe_dnewG {P:Program} {w:World} (D:KD P w κ) {pos:Pos} (hP:X.prog=P:=by rfl) (hw:X.w=w:=by rfl):PE X (.Dict [] [] pos) (tDNewG D):=by
 subst hP hw
 intro pins s σ H Q I h
 have hn:=I.hok.fresh (Nat.le_refl s.heap.objs.size)
 have hs:(s.heap.objs.size == sysModules)=false:=beq_eq_false_iff_ne.mpr (Ne.symm (Nat.ne_of_lt I.big))
 refine wpAny_Dict_empty ⟨.ref s.heap.objs.size,_,I.laid (a:=s.heap.objs.size) (o:=.ext (DGAt D s.heap.objs.size [])) (t':=s.toks) (fun _ _ q=>Heap.get?_push_of_some _ q) (Nat.le_refl _) ?_,rfl,h _ hn ⟨[],upd_same,.nil,hs,Nat.zero_le _⟩⟩
 exact dg_ext ⟨_,#[],0,Heap.get?_push_size _ rfl,⟨rfl,rfl,rfl⟩,rfl,rfl,List.nodup_nil⟩
theorem pc_gnotin {P:Program} {w:World} (D:KD P w κ) (hu:X.A.units+16 < cLine) (hi:PE X i ty) (ho:PE X o td) (hP:X.prog=P:=by rfl) (hw:X.w=w:=by rfl):PC X .NotIn i o (tGNotIn D ty td):=by
 subst hP hw
 intro pins s σ H Q I h
 refine thn (hi pins s σ H _ I h) fun iv s1 ⟨y,H1,I1,ry,q1⟩=>thn (ho pins s1 σ H1 _ I1 q1) fun u s2 ⟨x,H2,I2,rx,a,b,k,kvs,ex,ey,hk,⟨xs,g1,g2,g3,_⟩,q2⟩=>?_
 subst ex ey
 cases rx
 cases ry
 refine wpAny_notIn_heap (D.room hu) (D.is I2.hok hk) g3 (DG.at I2.hok g1 g2) ?_
 have e:=(g2.val k).isSome_eq
 rw [Option.isSome_map] at e
 rw [← e]
 exact ⟨.bl _,H2,I2.tok _,rfl,q2⟩
theorem pe_gget {P:Program} {w:World} (D:KD P w κ) (hu:X.A.units+16 < cLine) (ho:PE X o td) (hi:PE X i ty) (hs:NoSl i) (hP:X.prog=P:=by rfl) (hw:X.w=w:=by rfl):PE X (.Subscript o i pos) (tGGet D td ty):=by
 subst hP hw
 intro pins s σ H Q I h
 refine subD_of PySem.F.slot_dict_getitem.lookup hs (thn (ho pins s σ H _ I h) fun u s1 ⟨x,H1,I1,rx,q1⟩=>thn (hi pins s1 σ H1 _ I1 q1) fun iv s2 ⟨y,H2,I2,ry,a,b,k,kvs,v,ex,ey,hk,⟨xs,g1,g2,g3,_⟩,l,q2⟩=>?_)
 subst ex ey
 cases rx
 cases ry
 have dd:=DG.at I2.hok g1 g2
 refine ⟨dd.typeIs,?_⟩
 obtain ⟨w',hw',rw'⟩:=RelO.some_of (v:=v) (o:=(atKey xs k).map (·.2)) (by rw [← l];exact g2.val k)
 obtain ⟨p,hp,hp2⟩:=Option.map_eq_some_iff.mp hw'
 refine wpAny_getItem_heap (D.room hu) (D.is I2.hok hk) dd hp ?_
 rw [hp2]
 exact ⟨v,H2,I2.tok _,rw',q2⟩
theorem ps_gput {P:Program} {w:World} (D:KD P w κ) (hu:X.A.units+16 < cLine) (ho:PE X o td) (hi:PE X i ty) (hv:PE X value tv) (hs:swapsWith value (some (.Subscript o i pos')) pos.line X.env=pure false) (hP:X.prog=P:=by rfl) (hw:X.w=w:=by rfl) :
  PS X (.Assign [.Subscript o i pos'] value pos) (sGPut D td ty tv):=by
 subst hP hw
 intro pins s σ H E I h
 refine wpAny_Assign_Subscript (thn (hv pins s σ H _ I h) fun r s1 ⟨v,H1,I1,rv,q1⟩=>thn (ho pins s1 σ H1 _ I1 q1) fun u s2 ⟨x,H2,I2,rx,q2⟩=>thn (hi pins s2 σ H2 _ I2 q2) fun iv s3 ⟨y,H3,I3,ry,a,b,k,kvs,ex,ey,hk,⟨xs,g1,g2,g3,g4⟩,hl,q3⟩=>?_) hs
 subst ex ey
 cases rx
 cases ry
 have dd:=DG.at I3.hok g1 g2
 have hz:xs.length≤sizeLine:=by rw [← Paired.length g2];exact g4
 have hl':(putK kvs k v).length≤sizeLine:=by have:=length_putK kvs k v;omega
 refine wpAny_setItem_heap (hsz:=hz) (D.room hu) (D.is I3.hok hk) dd fun h' dd' hs=>?_
 obtain ⟨q,es,ep,hq,h2,h3,h4,_,h5⟩:=dd'
 have nt:∀ c ys,H3 c=some (.tup ys)→(upd H3 a (.ext (DGAt D a (storedH xs k b r)))) c=some (.tup ys):=fun c ys ec=>by
  rw [upd_ne (ne_of ec g1 (fun z=>nomatch z))];exact ec
 have I4:=d_write (t':=s3.toks+D.kd.draws k) (ob:=.ext (DGAt D a (storedH xs k b r))) I3 (by rw [g1];exact True.intro) hs ⟨q,hq⟩ (dg_ext ⟨q,es,ep,hq,h2,h3,h4,h5⟩)
 exact ⟨σ,_,I4,q3 _ (fun c hc=>upd_ne hc) ⟨_,upd_same,(g2.put k hk rv).keeps nt,g3,hl'⟩⟩
end
end
theorem items_bl {P:Program} {w:World}:∀ {ks:List Bool} {us:List Value},Vals (ks.map V.bl) us→ItemsAre (boolKind P w) ks us
 | [],_,r=>by rw [List.map_nil] at r;cases r;exact .nil
 | k :: ks,_,r=>by
  rw [List.map_cons] at r
  cases r with
  | cons h t =>
   cases h
   exact .cons (by show isBoolOf k (.bool k)=true;simp [isBoolOf]) (items_bl t)
def tbKD (P:Program) (w:World):KD P w (List Bool) where
 kd:=tupleKind (boolKind P w)
 ok:=fun H k a=>H a=some (.tup (k.map V.bl))
 is:=fun {H h k a} ok e=>by
  obtain ⟨_,its,r,o,h1,h2,n,h3⟩:=(show ObjOk P w H h a (.tup (k.map V.bl)) from ok a _ e)
  exact ⟨o,its.toArray,n,h1,h2,h3,by simpa using items_bl r⟩
 keep:=fun ht e=>ht _ _ e
 room:=fun {A} hu=>tupleKind_room_in1 (by omega)
section
variable {X:Cx} {pins:List (Addr×Obj)} {σ:St} {H:Hp} {s:Shared}
theorem eqat_ints (I:Inv X pins σ H s) (hu:X.A.units+80 < cLine) {a b:Addr} {ns ms:List Int} (ha:SqL X.K H a (ns.map V.int)) (hb:SqL X.K H b (ms.map V.int)):SeqAt.EqAt X.A.in1 s (.ref a) (.ref b) (decide (ns=ms)):=by
 obtain ⟨its,rv,p,_⟩:=I.list ha
 obtain ⟨its',rv',p',_⟩:=I.list hb
 exact PySem.W.keq_ints p.isList (intsAre_of rv) p'.isList (intsAre_of rv') (by show X.A.units+1+64 < cLine;omega)
end
structure LsAt {α:Type} (f:α→V) (H:Hp) (as:List Addr) (ws:List (List α)):Prop where
 len:as.length=ws.length
 row:∀ (i:Nat) a w,as[i]?=some a→ws[i]?=some w→H a=some (.lst (w.map f))
def hitU {α:Type} [DecidableEq α] (f:α→V) (H:Hp) (x:List α) (u:Value):Bool:=match u with
 | .ref a=>(match H a with
  | some (.lst xs)=>decide (xs=x.map f)
  | _=>false)
 | _=>false
theorem map_inj {α:Type} {f:α→V} (hf:∀ a b,f a=f b→a=b):∀ {x y:List α},x.map f=y.map f→x=y
 | [],[],_=>rfl
 | [],_ :: _,h=>by simp at h
 | _ :: _,[],h=>by simp at h
 | a :: x,b :: y,h=>by
  simp only [List.map_cons,List.cons.injEq] at h
  rw [hf _ _ h.1,map_inj hf h.2]
theorem hit_of {α:Type} [DecidableEq α] {f:α→V} (hf:∀ a b,f a=f b→a=b) {H:Hp} {x w:List α} {a:Addr} (h:H a=some (.lst (w.map f))):hitU f H x (.ref a)=decide (w=x):=by
 unfold hitU
 simp only [h]
 by_cases e:w=x
 ·subst e;simp
 ·rw [decide_eq_false e]
  exact decide_eq_false fun z=>e (map_inj hf z)
theorem LsAt.any {α:Type} [DecidableEq α] {f:α→V} (hf:∀ a b,f a=f b→a=b) {H:Hp} (x:List α):∀ {as:List Addr} {ws:List (List α)},LsAt f H as ws→(as.map Value.ref).any (hitU f H x)=decide (x∈ws)
 | [],[],_=>by simp
 | [],_ :: _,l=>by have:=l.len;simp at this
 | _ :: _,[],l=>by have:=l.len;simp at this
 | a :: as,w :: ws,l=>by
  have h0:=l.row 0 a w rfl rfl
  have lr:LsAt f H as ws:=⟨by have:=l.len;simpa using this,fun i b v h1 h2=>l.row (i+1) b v (by simpa using h1) (by simpa using h2)⟩
  rw [List.map_cons,List.any_cons,hit_of hf h0,LsAt.any hf x lr]
  by_cases e:w=x
  ·subst e;simp
  ·have:¬ x=w:=fun z=>e z.symm
   simp [e,this]
theorem LsAt.mem {α:Type} {f:α→V} {H:Hp} {as:List Addr} {ws:List (List α)} (l:LsAt f H as ws) {a:Addr} (h:a∈as):∃ w∈ws,H a=some (.lst (w.map f)):=by
 obtain ⟨i,hi⟩:=List.getElem?_of_mem h
 have hl:i < ws.length:=by rw [← l.len];exact (List.getElem?_eq_some_iff.mp hi).1
 exact ⟨_,List.getElem_mem hl,l.row i a _ hi (List.getElem?_eq_getElem hl)⟩
def rInL (K:PySem.W.Frag) {α:Type} [DecidableEq α] (f:α→V) (neg:Bool):R2:=fun x y H Q=>∃ (b p:Addr) (w:List α) (as:List Addr) (ws:List (List α)),x=.ref b∧y=.ref p∧SqL K H b (w.map f)∧SqL K H p (as.map V.ref)∧LsAt f H as ws∧Q (.bl (if neg then !decide (w∈ws) else decide (w∈ws))) H
section
variable {X:Cx}
theorem in_core {α:Type} [DecidableEq α] {f:α→V} (hf:∀ a b,f a=f b→a=b)
  (heq:∀ {pins:List (Addr×Obj)} {σ:St} {H:Hp} {s:Shared} {a b:Addr} {ns ms:List α},Inv X pins σ H s→SqL X.K H a (ns.map f)→SqL X.K H b (ms.map f)→SeqAt.EqAt X.A.in1 s (.ref a) (.ref b) (decide (ns=ms))) :
  OpR X (compareOp .In) (rInL X.K f false)∧OpR X (compareOp .NotIn) (rInL X.K f true):=by
 have hits:∀ {pins:List (Addr×Obj)} {σ:St} {H:Hp} {s:Shared} {b:Addr} {w:List α} {as:List Addr} {ws:List (List α)},Inv X pins σ H s→SqL X.K H b (w.map f)→LsAt f H as ws→∀ y∈as.map Value.ref,SeqAt.EqAt X.A.in1 s y (.ref b) (hitU f H w y):=by
  intro pins σ H s b w as ws I hb l y hy
  obtain ⟨a,ha,rfl⟩:=List.mem_map.mp hy
  obtain ⟨v,_,hv⟩:=l.mem ha
  rw [hit_of hf hv]
  exact heq I (SqL.of hv) hb
 constructor
 ·intro pins s σ H x y v u Q I rx ry h
  obtain ⟨b,p,w,as,ws,rfl,rfl,hb,hp,l,q⟩:=h
  cases rx;cases ry
  obtain ⟨its,r,pl,hz⟩:=I.list hp
  rw [vals_refs r] at pl
  refine SeqAt.in_listAt (hitU f H w) pl.isList (fun y hy=>hits I hb l y (by simpa using hy)) ⟨.bl _,H,I,rfl,?_⟩
  rw [show ((as.map Value.ref).toArray.any (hitU f H w))=(as.map Value.ref).any (hitU f H w) by simp,l.any hf]
  exact q
 ·intro pins s σ H x y v u Q I rx ry h
  obtain ⟨b,p,w,as,ws,rfl,rfl,hb,hp,l,q⟩:=h
  cases rx;cases ry
  obtain ⟨its,r,pl,hz⟩:=I.list hp
  rw [vals_refs r] at pl
  refine SeqAt.notIn_listAt (hitU f H w) pl.isList (fun y hy=>hits I hb l y (by simpa using hy)) ⟨.bl _,H,I,rfl,?_⟩
  rw [show ((as.map Value.ref).toArray.any (hitU f H w))=(as.map Value.ref).any (hitU f H w) by simp,l.any hf]
  exact q
theorem op_notinWK (K:PySem.W.Frag) (hu:X.A.units+80 < cLine) (hK:X.K=K:=by rfl):OpR X (compareOp .NotIn) (rInL K V.int true):=by
 subst hK;exact (in_core (fun a b h=>by injection h) fun I ha hb=>eqat_ints I hu ha hb).2
end
def stepV {α:Type} (xs:List α) (n:Nat):List α:=(List.range ((xs.length+n - 1) / n)).filterMap fun k=>xs[n * k]?
theorem vals_pick {xs:List V} {us:List Value} (r:Vals xs us):∀ ks:List Nat,Vals (ks.filterMap fun k=>xs[k]?) (ks.filterMap fun k=>us[k]?)
 | []=>.nil
 | k :: ks=>by
  cases hx:xs[k]? with
  | none =>
   have hu:=r.none_of hx
   rw [List.filterMap_cons_none hx,List.filterMap_cons_none hu]
   exact vals_pick r ks
  | some x =>
   obtain ⟨u,hu,ru⟩:=r.get hx
   rw [List.filterMap_cons_some hx,List.filterMap_cons_some hu]
   exact .cons ru (vals_pick r ks)
theorem stepV_map {α:Type} (xs:List α) (n:Nat):stepV xs n=((List.range ((xs.length+n - 1) / n)).map fun k=>n * k).filterMap fun k=>xs[k]?:=by
 unfold stepV;rw [List.filterMap_map];rfl
theorem pick_step (its:List Value) {n:Nat} (hn:0 < n):slicePick its.toArray none none (some (n:Int))=(stepV its n).toArray:=by
 have hb:sliceBounds none none (some (n:Int)) its.toArray.size=(0,(its.length:Int),(n:Int)):=by
  unfold sliceBounds
  have h:((n:Int) > 0):=by omega
  simp only [Option.getD_some,if_pos h,List.size_toArray]
 unfold slicePick
 rw [hb]
 have hr:sliceRange 0 (its.length:Int) (n:Int)=(List.range ((its.length+n - 1) / n)).map fun k=>n * k:=by
  unfold sliceRange
  have h:((n:Int) > 0):=by omega
  simp only [h,if_true]
  have hc:(if (0:Int) < (its.length:Int) then ((its.length:Int) - 0+(n:Int) - 1) / (n:Int) else 0).toNat=(its.length+n - 1) / n:=by
   by_cases h0:its.length=0
   ·rw [h0]
    simp only [Nat.zero_add]
    rw [if_neg (by simp),Nat.div_eq_of_lt (by omega)];rfl
   ·rw [if_pos (by omega)]
    have e:(its.length:Int) - 0+(n:Int) - 1=((its.length+n - 1:Nat):Int):=by omega
    rw [e,← Int.natCast_ediv,Int.toNat_natCast]
  rw [hc]
  refine List.map_congr_left fun k _=>?_
  have e:(0:Int)+(n:Int) * (k:Int)=((n * k:Nat):Int):=by rw [Int.natCast_mul];omega
  rw [e,Int.toNat_natCast]
 rw [hr,stepV_map]
 congr 1
 congr 1
 funext k
 simp
theorem filterMap_all {α β:Type} {f:α→Option β} {g:α→β}:∀ {l:List α},(∀ x∈l,f x=some (g x))→l.filterMap f=l.map g
 | [],_=>rfl
 | a :: l,h=>by
  rw [List.filterMap_cons_some (h a List.mem_cons_self),List.map_cons,filterMap_all fun x hx=>h x (List.mem_cons_of_mem _ hx)]
theorem stepV_get {α:Type} [Inhabited α] {xs:List α} {n m:Nat} (hn:0 < n) (hl:xs.length=m * n):stepV xs n=(List.range m).map fun k=>xs.getD (n * k) default:=by
 unfold stepV
 have hc:(xs.length+n - 1) / n=m:=by
  rw [hl]
  have:m * n+n - 1=(n - 1)+m * n:=by omega
  rw [this,Nat.add_mul_div_right _ _ hn,Nat.div_eq_of_lt (by omega),Nat.zero_add]
 rw [hc]
 refine filterMap_all fun k hk=>?_
 have hk':=List.mem_range.mp hk
 have hlt:n * k < xs.length:=by
  rw [hl,Nat.mul_comm m n]
  exact Nat.mul_lt_mul_of_pos_left hk' hn
 rw [List.getD_eq_getElem?_getD,List.getElem?_eq_getElem hlt];rfl
def tSlN (K:PySem.W.Frag) (te ts:TE):TE:=fun σ H Q=>te σ H fun x H1=>ts σ H1 fun y H2=>∃ (a:Addr) (xs:List V) (n:Nat),x=.ref a∧y=.int (n:Int)∧0 < n∧SqL K H2 a xs∧∀ p,H2 p=none→Q (.ref p) (upd H2 p (.lst (stepV xs n)))
theorem stepV_len {α:Type} (xs:List α) (n:Nat):(stepV xs n).length≤(xs.length+n - 1) / n:=by
 unfold stepV
 exact Nat.le_trans (List.length_filterMap_le _ _) (by rw [List.length_range];exact Nat.le_refl _)
section
variable {X:Cx}
theorem pe_sliceN (K:PySem.W.Frag) {e st:Expr} {te ts:TE} {p2 pos:Pos} (he:PE X e te) (hst:PE X st ts) (hK:X.K=K:=by rfl):PE X (.Subscript e (.Slice none none (some st) p2) pos) (tSlN K te ts):=by
 subst hK
 intro pins s σ H Q I h
 refine Subscript_ (thn (he pins s σ H _ I h) fun v s1 ⟨x,H1,I1,r1,q1⟩=>?_)
 refine wpAny_Slice ?_
 rw [evalPart_none]
 refine wpAny_pure (wpAny_pure ?_)
 rw [evalPart_some]
 refine thn (hst pins s1 σ H1 _ I1 q1) fun vs s3 ⟨y,H3,I3,r3,a,xs,n,ex,ey,hn,hx,q3⟩=>?_
 subst ex ey
 cases r1
 obtain ⟨tk,rfl⟩:=r3
 have I4:Inv X pins σ H3 { s3 with heap:=s3.heap.push { cls:=.type "slice",data:=.fields #[.none,.none,.int (n:Int) tk] } }:=I3.kept (t':=s3.toks) fun b ob q=>Heap.get?_push_of_some _ q
 obtain ⟨its,r,ht,hz⟩:=I4.list hx
 have hlen:=r.length
 show wpAny (model X.prog X.w) X.A (subscriptTail e (.Slice none none (some st) p2) (.ref a) (.ref s3.heap.objs.size)) (EP X pins σ Q) X.xe { s3 with heap:=s3.heap.push { cls:=.type "slice",data:=.fields #[.none,.none,.int (n:Int) tk] } }
 refine tail_any (ops:=[.ref a,.ref s3.heap.objs.size]) ht.isList.typeIs slot_list_getitem.lookup ?_ (by with_unfolding_all rfl)
 refine wpAny_getItem_list_slice ht.isList (Heap.IsSliceOf.new ..) .none .none (.int (n:Int) tk) (by intro z;injection z with z;omega) ?_ (by rw [List.size_toArray];omega)
 rw [pick_step _ hn]
 refine ⟨.ref _,_,I4.laid (t':=s3.toks) (o:=.lst (stepV xs n)) (fun b ob q=>Heap.get?_push_of_some _ q) (Nat.le_refl _) ?_,rfl,q3 _ (I4.hok.fresh (Nat.le_refl _))⟩
 refine ⟨Nat.le_trans (stepV_len xs n) (Nat.le_trans ?_ hz),_,0,?_,Heap.get?_push_size _ rfl⟩
 ·by_cases h0:xs.length=0
  ·rw [h0,Nat.div_eq_of_lt (by omega)];exact Nat.le_refl _
  ·refine Nat.div_le_of_le_mul ?_
   have:xs.length+n - 1≤n * xs.length:=by
    have h1:1≤xs.length:=by omega
    obtain ⟨m,hm⟩:∃ m,xs.length=m+1:=⟨xs.length - 1,by omega⟩
    rw [hm,Nat.mul_succ]
    have:m≤n * m:=Nat.le_mul_of_pos_left m hn
    omega
   exact this
 ·rw [stepV_map,stepV_map,hlen]
  exact vals_pick r _
end
section
variable {σ:St} {H:Hp} {Q:VK} {te ts ty td tv:TE} {E:Ends}
theorem r_slN {K:PySem.W.Frag} (h:te σ H fun x H1=>ts σ H1 fun y H2=>∃ (a:Addr) (xs:List V) (n:Nat),x=.ref a∧y=.int (n:Int)∧0 < n∧SqL K H2 a xs∧∀ p,H2 p=none→Q (.ref p) (upd H2 p (.lst (stepV xs n)))):tSlN K te ts σ H Q:=h
variable {P:Program} {w:World} {κ:Type} [DecidableEq κ] {D:KD P w κ}
theorem r_dnewG (h:∀ p,H p=none→DG D (upd H p (.ext (DGAt D p []))) p []→Q (.ref p) (upd H p (.ext (DGAt D p [])))):tDNewG D σ H Q:=h
theorem r_gnotin (h:ty σ H fun y H1=>td σ H1 fun x H2=>∃ a b k kvs,x=.ref a∧y=.ref b∧D.ok H2 k b∧DG D H2 a kvs∧Q (.bl (!(valV kvs k).isSome)) H2):tGNotIn D ty td σ H Q:=h
theorem r_gget (h:td σ H fun x H1=>ty σ H1 fun y H2=>∃ a b k kvs v,x=.ref a∧y=.ref b∧D.ok H2 k b∧DG D H2 a kvs∧valV kvs k=some v∧Q v H2):tGGet D td ty σ H Q:=h
theorem r_gput (h:tv σ H fun v H1=>td σ H1 fun x H2=>ty σ H2 fun y H3=>∃ a b k kvs,x=.ref a∧y=.ref b∧D.ok H3 k b∧DG D H3 a kvs∧kvs.length < sizeLine ∧
 ∀ H4,(∀ c,c≠a→H4 c=H3 c)→DG D H4 a (putK kvs k v)→E.nx σ H4):sGPut D td ty tv E σ H:=h
theorem r_sfldaug {K:PySem.W.Frag} {ta:TE} {rd:V→V→Hp→VK→Prop} {f:Str} (h:ta σ H fun x H1=>∃ a C dx fs v,x=.ref a∧H1 a=some (.ins C dx fs)∧Cls K C∧NoAttr K C f∧fs.lookup f=some v ∧
 tv σ H1 fun y H2=>rd v y H2 fun z H3=>∃ dx' fs',H3 a=some (.ins C dx' fs')∧fs'.length < 1000∧E.nx σ (upd H3 a (.ins C dx' (putF f z fs')))):sFldAug K ta tv rd f E σ H:=h
end
section
variable {X:Cx}
theorem ps_fldaugK (K:PySem.W.Frag) {o value:Expr} {f:Str} {pos tpos:Pos} {ta tv:TE} {op:Operator} {rd:V→V→Hp→VK→Prop} (ha:PE X o ta) (hv:PE X value tv) (hop:InOp X op rd) (hK:X.K=K:=by rfl):PS X (.AugAssign (.Attribute o f tpos) op value pos) (sFldAug K ta tv rd f):=by subst hK;exact ps_fldaug ha hv hop
end
theorem pc_op {X:Cx} {op:CmpOp} {r:R2} {a b:Expr} {ta tb:TE} (h:OpR X (compareOp op) r) (ha:PE X a ta) (hb:PE X b tb):PC X op a b (tOp r ta tb):=by
 intro pins s σ H Q I hw
 refine thn (ha pins s σ H _ I hw) fun u s1 ⟨x,H1,I1,rx,q1⟩=>thn (hb pins s1 σ H1 _ I1 q1) fun v s2 ⟨y,H2,I2,ry,q2⟩=>?_
 exact h pins s2 σ H2 x y u v Q I2 rx ry q2
end L2
namespace My
end My
namespace My
def Fits (rss:List (List Int)) (ls:List Bool) (kn:Bk):Prop:=∀ w b,saidO kn w=some b→lampW rss ls w=b
theorem Fits.start (rss:List (List Int)) (ls:List Bool):Fits rss ls []:=fun w b h=>by simp [saidO] at h
theorem Fits.add {rss:List (List Int)} {ls:List Bool} {kn:Bk} (F:Fits rss ls kn) (w:List Int):Fits rss ls (kn++[(w,lampW rss ls w)]):=fun u b h=>by
 rw [saidO_snoc] at h
 cases hk:saidO kn u with
 | some c=>rw [hk] at h;exact F u b (by rw [hk];exact h)
 | none =>
  rw [hk] at h
  by_cases e:w=u
  ·rw [if_pos e] at h
   subst e
   simpa using h
  ·rw [if_neg e] at h;cases h
section
variable {κ:Type} [DecidableEq κ]
structure Reps (st:κ→Int→κ) (lam:κ→Bool) (d:Int) (m:Nat) (U l:List κ):Prop where
 sub:∀ x∈l,x∈U
 dis:l.Pairwise fun a b=>∃ v,WordOk d v∧v.length≤m∧lam (walkG st a v)≠lam (walkG st b v)
theorem reps_grow {st:κ→Int→κ} {lam:κ→Bool} {d:Int} {m:Nat} {U l:List κ} (R:Reps st lam d m U l) {a b:κ} (ha:a∈U) (hb:b∈U) {v:List Int} (hv:WordOk d v) (hl:v.length=m+1) (hp:lam (walkG st a v)≠lam (walkG st b v))
  (hs:∀ u,WordOk d u→u.length≤m→lam (walkG st a u)=lam (walkG st b u)):∃ l',l'.length=l.length+1∧Reps st lam d (m+1) U l':=by
 have up:∀ x y:κ,(∃ v,WordOk d v∧v.length≤m∧lam (walkG st x v)≠lam (walkG st y v))→∃ v,WordOk d v∧v.length≤m+1∧lam (walkG st x v)≠lam (walkG st y v):=fun x y ⟨v,h1,h2,h3⟩=>⟨v,h1,by omega,h3⟩
 by_cases hc:∀ r∈l,∃ v,WordOk d v∧v.length≤m∧lam (walkG st a v)≠lam (walkG st r v)
 ·refine ⟨a :: l,rfl,fun x hx=>?_,List.pairwise_cons.mpr ⟨fun r hr=>up _ _ (hc r hr),R.dis.imp fun {x y} h=>up x y h⟩⟩
  rcases List.mem_cons.mp hx with rfl | hx
  ·exact ha
  ·exact R.sub x hx
 ·have hc:∃ r,r∈l∧∀ v,WordOk d v→v.length≤m→lam (walkG st a v)=lam (walkG st r v):=by
   refine Classical.byContradiction fun z=>hc fun r hr=>Classical.byContradiction fun y=>z ⟨r,hr,fun v h1 h2=>Classical.byContradiction fun x=>y ⟨v,h1,h2,x⟩⟩
  obtain ⟨r,hr,heq⟩:=hc
  have e:∃ l1 l2,l=l1++r :: l2:=List.append_of_mem hr
  obtain ⟨l1,l2,rfl⟩:=e
  have hd:=R.dis
  rw [List.pairwise_append,List.pairwise_cons] at hd
  obtain ⟨d1,⟨d2,d3⟩,d4⟩:=hd
  have far:∀ x:κ,(∃ v,WordOk d v∧v.length≤m∧lam (walkG st r v)≠lam (walkG st x v))→(∃ v,WordOk d v∧v.length≤m+1∧lam (walkG st a v)≠lam (walkG st x v))∧∃ v,WordOk d v∧v.length≤m+1∧lam (walkG st b v)≠lam (walkG st x v):=fun x ⟨u,h1,h2,h3⟩=>⟨⟨u,h1,by omega,by rw [heq u h1 h2];exact h3⟩,⟨u,h1,by omega,by rw [← hs u h1 h2,heq u h1 h2];exact h3⟩⟩
  refine ⟨l1++a :: b :: l2,by simp;omega,fun x hx=>?_,?_⟩
  ·rcases List.mem_append.mp hx with hx | hx
   ·exact R.sub x (List.mem_append_left _ hx)
   ·rcases List.mem_cons.mp hx with rfl | hx
    ·exact ha
    ·rcases List.mem_cons.mp hx with rfl | hx
     ·exact hb
     ·exact R.sub x (List.mem_append_right _ (List.mem_cons_of_mem _ hx))
  ·rw [List.pairwise_append,List.pairwise_cons,List.pairwise_cons]
   refine ⟨d1.imp fun {x y} h=>up x y h,⟨fun x hx=>?_,fun x hx=>(far x (d2 x hx)).2,d3.imp fun {x y} h=>up x y h⟩,fun x hx y hy=>?_⟩
   ·rcases List.mem_cons.mp hx with rfl | hx
    ·exact ⟨v,hv,by omega,hp⟩
    ·exact (far x (d2 x hx)).1
   ·have hxr:=d4 x hx r List.mem_cons_self
    obtain ⟨u,h1,h2,h3⟩:=hxr
    have hf:=far x ⟨u,h1,h2,fun z=>h3 z.symm⟩
    rcases List.mem_cons.mp hy with rfl | hy
    ·obtain ⟨u',g1,g2,g3⟩:=hf.1
     exact ⟨u',g1,g2,fun z=>g3 z.symm⟩
    ·rcases List.mem_cons.mp hy with rfl | hy
     ·obtain ⟨u',g1,g2,g3⟩:=hf.2
      exact ⟨u',g1,g2,fun z=>g3 z.symm⟩
     ·exact up x y (d4 x hx y (List.mem_cons_of_mem _ hy))
theorem walkG_app (st:κ→Int→κ) (k:κ) (u v:List Int):walkG st k (u++v)=walkG st (walkG st k u) v:=by unfold walkG;rw [List.foldl_append]
theorem moore {st:κ→Int→κ} {lam:κ→Bool} {d:Int} {U:List κ} (cl:∀ x∈U,∀ w,WordOk d w→walkG st x w∈U) {a b:κ} (ha:a∈U) (hb:b∈U) {w:List Int} (hw:WordOk d w) (hp:lam (walkG st a w)≠lam (walkG st b w))
  (hs:∀ u,WordOk d u→u.length < w.length→lam (walkG st a u)=lam (walkG st b u)):w.length+2≤U.length:=by
 have wok:∀ n,WordOk d (w.drop n)∧WordOk d (w.take n):=fun n=>⟨fun x hx=>hw x (List.mem_of_mem_drop hx),fun x hx=>hw x (List.mem_of_mem_take hx)⟩
 have part:∀ n,n≤w.length→∃ x y,x∈U∧y∈U∧(∃ v,WordOk d v∧v.length=n∧lam (walkG st x v)≠lam (walkG st y v))∧∀ u,WordOk d u→u.length < n→lam (walkG st x u)=lam (walkG st y u):=fun n hn=>by
  refine ⟨walkG st a (w.take (w.length - n)),walkG st b (w.take (w.length - n)),cl a ha _ (wok _).2,cl b hb _ (wok _).2,⟨w.drop (w.length - n),(wok _).1,by rw [List.length_drop];omega,?_⟩,fun u hu hul=>?_⟩
  ·rw [← walkG_app,← walkG_app,List.take_append_drop];exact hp
  ·rw [← walkG_app,← walkG_app]
   refine hs _ (wok_app (wok _).2 hu) ?_
   rw [List.length_append,List.length_take];omega
 have main:∀ n,n≤w.length→∃ l,l.length=n+2∧Reps st lam d n U l:=fun n=>by
  induction n with
  | zero =>
   intro _
   obtain ⟨x,y,hx,hy,⟨v,v1,v2,v3⟩,_⟩:=part 0 (Nat.zero_le _)
   refine ⟨[x,y],rfl,fun z hz=>?_,?_⟩
   ·rcases List.mem_cons.mp hz with rfl | hz
    ·exact hx
    ·rw [List.mem_singleton.mp hz];exact hy
   ·simp only [List.pairwise_cons,List.mem_singleton,List.not_mem_nil,false_implies,implies_true,List.Pairwise.nil,and_true]
    rintro z rfl
    exact ⟨v,v1,by omega,v3⟩
  | succ n ih =>
   intro hn
   obtain ⟨l,hl,R⟩:=ih (by omega)
   obtain ⟨x,y,hx,hy,⟨v,v1,v2,v3⟩,h4⟩:=part (n+1) hn
   obtain ⟨l',hl',R'⟩:=reps_grow R hx hy v1 v2 v3 (fun u hu hul=>h4 u hu (by omega))
   exact ⟨l',by omega,R'⟩
 obtain ⟨l,hl,R⟩:=main w.length (Nat.le_refl _)
 have nd:l.Nodup:=by
  rw [List.nodup_iff_pairwise_ne]
  exact R.dis.imp fun {x y} ⟨v,_,_,h⟩ e=>h (by rw [e])
 have:=nodup_sub nd R.sub
 omega
end
def stS (rss rss2:List (List Int)):Int ⊕ Int→Int→Int ⊕ Int
 | .inl q,x=>.inl (step rss q x)
 | .inr q,x=>.inr (step rss2 q x)
def lamS (ls ls2:List Bool):Int ⊕ Int→Bool
 | .inl q=>lampI ls q
 | .inr q=>lampI ls2 q
theorem walkS_l (rss rss2:List (List Int)) (w:List Int):∀ q:Int,walkG (stS rss rss2) (.inl q) w=.inl (walkI rss q w):=by
 unfold walkG walkI
 induction w with
 | nil=>intro q;rfl
 | cons x w ih=>intro q;exact ih (step rss q x)
theorem walkS_r (rss rss2:List (List Int)) (w:List Int):∀ q:Int,walkG (stS rss rss2) (.inr q) w=.inr (walkI rss2 q w):=by
 unfold walkG walkI
 induction w with
 | nil=>intro q;rfl
 | cons x w ih=>intro q;exact ih (step rss2 q x)
theorem part_len {d:Int} {rss rss2:List (List Int)} {ls ls2:List Bool} {a b:Int} {w:List Int} (W:Ways d rss) (W2:Ways d rss2) (a0:0≤a) (a1:a < rss.length) (b0:0≤b) (b1:b < rss2.length) (hw:WordOk d w) (hp:lampI ls (walkI rss a w)≠lampI ls2 (walkI rss2 b w))
  (hs:∀ u,WordOk d u→u.length < w.length→lampI ls (walkI rss a u)=lampI ls2 (walkI rss2 b u)):w.length+2≤rss.length+rss2.length:=by
 have mem:∀ (n:Nat) (q:Int),0≤q→q < n→q∈(List.range n).map fun (i:Nat)=>(i:Int):=fun n q h0 h1=>List.mem_map.mpr ⟨q.toNat,List.mem_range.mpr (by omega),by omega⟩
 have inv:∀ (n:Nat) (q:Int),q∈((List.range n).map fun (i:Nat)=>(i:Int))→0≤q∧q < n:=fun n q h=>by
  obtain ⟨i,hi,rfl⟩:=List.mem_map.mp h
  have:=List.mem_range.mp hi
  omega
 have key:=moore (st:=stS rss rss2) (lam:=lamS ls ls2) (d:=d) (U:=(((List.range rss.length).map fun (i:Nat)=>(i:Int)).map Sum.inl)++(((List.range rss2.length).map fun (i:Nat)=>(i:Int)).map Sum.inr)) (a:=.inl a) (b:=.inr b) (w:=w) (fun x hx v hv=>?_)
  (List.mem_append_left _ (List.mem_map.mpr ⟨a,mem _ a a0 a1,rfl⟩)) (List.mem_append_right _ (List.mem_map.mpr ⟨b,mem _ b b0 b1,rfl⟩)) hw (by rw [walkS_l,walkS_r];exact hp) (fun u hu hul=>by rw [walkS_l,walkS_r];exact hs u hu hul)
 ·simpa using key
 ·rcases List.mem_append.mp hx with hx | hx
  ·obtain ⟨q,hq,rfl⟩:=List.mem_map.mp hx
   obtain ⟨h0,h1⟩:=inv _ q hq
   rw [walkS_l]
   obtain ⟨g0,g1⟩:=walkI_in W hv h0 h1
   exact List.mem_append_left _ (List.mem_map.mpr ⟨_,mem _ _ g0 g1,rfl⟩)
  ·obtain ⟨q,hq,rfl⟩:=List.mem_map.mp hx
   obtain ⟨h0,h1⟩:=inv _ q hq
   rw [walkS_r]
   obtain ⟨g0,g1⟩:=walkI_in W2 hv h0 h1
   exact List.mem_append_right _ (List.mem_map.mpr ⟨_,mem _ _ g0 g1,rfl⟩)
end My
namespace L2
open PySem PySem.Spec PyProof.Rows
end L2
namespace L2
open PySem PySem.Spec PyProof.Rows
section
variable {prog:Program} {w:World} {A:Around} {E:Value→Shared→Prop} {s:Shared} {it d:Addr} {i ep:Nat} {es:Array DictEntry} {od:Obj}
end
section
variable {X:Cx}
end
section
variable {σ:St} {H:Hp} {tl:TE}
end
end L2
set_option maxHeartbeats 1000000
namespace My
open PySem L2 PyProof.Rows
def top (i:Nat):Stmt:=PySem.Challenge.pw_askhouse_k20_what_learners_refuse.main.body.getD i (.Pass ⟨0,0,0,0⟩)
abbrev s_check_doors:Stmt:=top 11
abbrev s_check_house:Stmt:=top 12
abbrev s_check_word:Stmt:=top 13
abbrev s_House_init:Stmt:=inClass (top 14) 0
abbrev s_House_rooms:Stmt:=inClass (top 14) 1
abbrev s_House_trail:Stmt:=inClass (top 14) 2
abbrev s_House_room_of:Stmt:=inClass (top 14) 3
abbrev s_House_says:Stmt:=inClass (top 14) 4
abbrev s_Book_init:Stmt:=inClass (top 16) 0
abbrev s_Book_said:Stmt:=inClass (top 16) 3
abbrev s_Book_check_note:Stmt:=inClass (top 16) 1
abbrev s_Book_note:Stmt:=inClass (top 16) 2
abbrev s_Book_all_said:Stmt:=inClass (top 16) 4
abbrev s_Learner_add_head:Stmt:=inClass (top 18) 1
abbrev s_Learner_init:Stmt:=inClass (top 18) 0
abbrev s_Learner_gap:Stmt:=inClass (top 18) 3
abbrev s_Learner_question:Stmt:=inClass (top 18) 2
abbrev s_Learner_heads_by_row:Stmt:=inClass (top 18) 7
abbrev s_Learner_unlike_edge:Stmt:=inClass (top 18) 6
abbrev s_Learner_add_unlike_edges:Stmt:=inClass (top 18) 5
abbrev s_Learner_answer:Stmt:=inClass (top 18) 4
abbrev s_Learner_guess:Stmt:=inClass (top 18) 8
abbrev s_Learner_add_tails:Stmt:=inClass (top 18) 10
abbrev s_Learner_wrong:Stmt:=inClass (top 18) 9
abbrev s_l_cell_at:Stmt:=top 20
abbrev s_l_draw:Stmt:=top 21
abbrev s_l_ways_by:Stmt:=top 22
abbrev s_l_lamps_by:Stmt:=top 23
abbrev s_l_word_by:Stmt:=top 24
abbrev s_l_walk:Stmt:=top 25
abbrev s_l_part:Stmt:=top 26
abbrev s_l_stands_under:Stmt:=top 27
abbrev s_l_do:Stmt:=top 28
abbrev s_l_name:Stmt:=top 29
abbrev s_l_seen:Stmt:=top 30
abbrev s_l_refusals_hold:Stmt:=top 31
abbrev s_l_rows:Stmt:=top 32
abbrev s_law:Stmt:=top 33
local macro_rules | `(tactic| walk_at "sx")=>`(tactic| first
 | with_reducible refine r_seq ?_ | with_reducible refine r_asg ?_ | with_reducible refine r_gname ?_ | with_reducible refine r_gsub ?_ | with_reducible refine r_drop ?_ | with_reducible refine r_ret ?_ | with_reducible refine r_ifs ?_
 | ((with_reducible refine r_var (v:=?v) ?e ?_);(case e=>exact rfl))
 | with_reducible refine r_C ?_ | with_reducible refine r_op ?_ | with_reducible refine r_un ?_ | with_reducible refine r_test ?_ | with_reducible refine r_tB ?_ | with_reducible refine r_bl ?_
 | with_reducible refine r_and ?_ | with_reducible refine r_or ?_ | with_reducible refine r_not ?_ | with_reducible refine r_andV ?_ | with_reducible refine r_orV ?_ | with_reducible refine r_notV ?_ | with_reducible refine r_chain ?_
 | with_reducible refine r_call ?_ | with_reducible refine r_cb ?_ | with_reducible refine r_cons ?_ | with_reducible refine r_nil ?_ | with_reducible refine r_next ?_ | with_reducible refine r_lst ?_ | with_reducible refine r_tup ?_
 | with_reducible refine r_for ?_ | with_reducible refine r_rng1 ?_ | with_reducible refine r_rng2 ?_ | with_reducible refine r_ilist ?_ | with_reducible refine r_ienum ?_ | with_reducible refine r_izip ?_ | with_reducible refine r_comp ?_ | with_reducible refine r_bm ?_ | with_reducible refine r_meth ?_ | with_reducible refine r_make ?_ | with_reducible refine r_sfld ?_
 | with_reducible refine r_I0 ?_ | with_reducible refine r_U ?_
 | ((with_reducible refine r_I ?c ?_);(case c=>first | (show (0:Int) < _;first | assumption | decide | omega) | exact ⟨by decide,by decide⟩ | exact Or.inl ⟨by decide,by decide⟩ | exact Or.inr ⟨by decide,by decide⟩))
 | with_reducible refine r_raise ?_ | with_reducible refine r_joined ?_ | with_reducible refine r_jstr ?_ | with_reducible refine r_jnil ?_ | with_reducible refine r_jint ?_ | with_reducible refine r_try ?_
 | with_reducible refine r_bm0 ?_ | with_reducible refine r_dget ?_ | with_reducible refine r_din ?_ | with_reducible refine r_dnotin ?_ | with_reducible refine r_dput ?_ | with_reducible refine r_dnew ?_ | with_reducible refine r_sl ?_ | with_reducible refine r_nopart ?_ | with_reducible refine r_part ?_
 | with_reducible refine r_dispT ?_ | with_reducible refine r_jbl ?_ | with_reducible refine r_compI ?_ | with_reducible refine r_ifE ?_ | with_reducible refine r_tryN ?_ | with_reducible refine r_iitemsK ?_ | with_reducible refine r_tryA ?_ | with_reducible refine r_thaw ?_ | with_reducible refine r_iitems ?_ | with_reducible refine r_dget1 ?_ | with_reducible refine r_dnewT ?_
 | with_reducible refine r_slN ?_ | with_reducible refine r_dnewG ?_ | with_reducible refine r_gin ?_ | with_reducible refine r_gnotin ?_ | with_reducible refine r_gget ?_ | with_reducible refine r_gput ?_ | with_reducible refine r_sfldaug ?_
 | with_reducible refine r_snx ?_ | with_reducible refine r_srt ?_
 | with_reducible refine r_nx ?_ | with_reducible refine r_rt ?_)
local macro_rules | `(tactic| walk_at "w")=>`(tactic| (repeat walk_at "sx"))
theorem len_1 {α:Type} {us:List α} (h:us.length=1):∃ a0,us=[a0]:=List.length_eq_one_iff.mp h
theorem len_2 {α:Type} {us:List α} (h:us.length=2):∃ a0 a1,us=[a0,a1]:=by
 cases us with
 | nil=>simp at h
 | cons a0 r =>
  obtain ⟨a1,e⟩:=len_1 (us:=r) (by simpa using h)
  exact ⟨a0,a1,by rw [e]⟩
theorem len_3 {α:Type} {us:List α} (h:us.length=3):∃ a0 a1 a2,us=[a0,a1,a2]:=by
 cases us with
 | nil=>simp at h
 | cons a0 r =>
  obtain ⟨a1,a2,e⟩:=len_2 (us:=r) (by simpa using h)
  exact ⟨a0,a1,a2,by rw [e]⟩
theorem len_4 {α:Type} {us:List α} (h:us.length=4):∃ a0 a1 a2 a3,us=[a0,a1,a2,a3]:=by
 cases us with
 | nil=>simp at h
 | cons a0 r =>
  obtain ⟨a1,a2,a3,e⟩:=len_3 (us:=r) (by simpa using h)
  exact ⟨a0,a1,a2,a3,by rw [e]⟩
theorem len_5 {α:Type} {us:List α} (h:us.length=5):∃ a0 a1 a2 a3 a4,us=[a0,a1,a2,a3,a4]:=by
 cases us with
 | nil=>simp at h
 | cons a0 r =>
  obtain ⟨a1,a2,a3,a4,e⟩:=len_4 (us:=r) (by simpa using h)
  exact ⟨a0,a1,a2,a3,a4,by rw [e]⟩
theorem len_6 {α:Type} {us:List α} (h:us.length=6):∃ a0 a1 a2 a3 a4 a5,us=[a0,a1,a2,a3,a4,a5]:=by
 cases us with
 | nil=>simp at h
 | cons a0 r =>
  obtain ⟨a1,a2,a3,a4,a5,e⟩:=len_5 (us:=r) (by simpa using h)
  exact ⟨a0,a1,a2,a3,a4,a5,by rw [e]⟩
structure Mat (H:Hp) (a:Addr) (rs:List Addr) (rss:List (List Int)):Prop where
 top:H a=some (.lst (rs.map V.ref))
 len:rs.length=rss.length
 row:∀ (i:Nat) (r:Addr) (row:List Int),rs[i]?=some r→rss[i]?=some row→H r=some (.lst (row.map V.int))
 nd:(a :: rs).Nodup
theorem Mat.same {H H':Hp} {a:Addr} {rs:List Addr} {rss:List (List Int)} (e:Same H H') (m:Mat H a rs rss):Mat H' a rs rss :=
 ⟨e _ _ m.top,m.len,fun i r row h1 h2=>e _ _ (m.row i r row h1 h2),m.nd⟩
theorem Mat.get {H:Hp} {a:Addr} {rs:List Addr} {rss:List (List Int)} (m:Mat H a rs rss) {i:Nat} {row:List Int} (h:rss[i]?=some row) :
  ∃ r,rs[i]?=some r∧(rs.map V.ref)[i]?=some (.ref r)∧H r=some (.lst (row.map V.int)):=by
 obtain ⟨hi,_⟩:=List.getElem?_eq_some_iff.mp h
 have hr:i < rs.length:=by rw [m.len];exact hi
 refine ⟨rs[i],List.getElem?_eq_getElem hr,?_,m.row i _ row (List.getElem?_eq_getElem hr) h⟩
 rw [List.getElem?_map,List.getElem?_eq_getElem hr];rfl
theorem Mat.upd {H:Hp} {a:Addr} {rs:List Addr} {rss:List (List Int)} (m:Mat H a rs rss) {b:Addr} {o:HO} (hb:b∉a :: rs):Mat (upd H b o) a rs rss:=by
 refine ⟨?_,m.len,fun i r row h1 h2=>?_,m.nd⟩
 ·rw [upd_ne (fun z=>hb (by rw [← z];exact List.mem_cons_self))];exact m.top
 ·rw [upd_ne (fun z=>hb (by rw [← z];exact List.mem_cons_of_mem _ (List.mem_of_getElem? h1)))];exact m.row i r row h1 h2
theorem Mat.mem {H:Hp} {a:Addr} {rs:List Addr} {rss:List (List Int)} (m:Mat H a rs rss) {b:Addr} (hb:b∈a :: rs):∃ o,H b=some o:=by
 rcases List.mem_cons.mp hb with rfl | hb
 ·exact ⟨_,m.top⟩
 ·obtain ⟨i,hi⟩:=List.getElem?_of_mem hb
  obtain ⟨h1,_⟩:=List.getElem?_eq_some_iff.mp hi
  have h2:i < rss.length:=by rw [← m.len];exact h1
  exact ⟨_,m.row i b rss[i] hi (List.getElem?_eq_getElem h2)⟩
theorem int_map_get {ns:List Int} {i:Nat} {x:Int} (h:ns[i]?=some x):(ns.map V.int)[i]?=some (.int x):=by rw [List.getElem?_map,h];rfl
theorem int_map_inv {ns:List Int} {i:Nat} {x:V} (h:(ns.map V.int)[i]?=some x):∃ n,x=.int n∧ns[i]?=some n:=by
 rw [List.getElem?_map] at h
 cases e:ns[i]? with
 | none=>rw [e] at h;cases h
 | some n=>rw [e] at h;cases h;exact ⟨n,rfl,rfl⟩
theorem bl_map_get {ns:List Bool} {i:Nat} {x:Bool} (h:ns[i]?=some x):(ns.map V.bl)[i]?=some (.bl x):=by rw [List.getElem?_map,h];rfl
theorem ref_map_inv {ns:List Addr} {i:Nat} {x:V} (h:(ns.map V.ref)[i]?=some x):∃ n,x=.ref n∧ns[i]?=some n:=by
 rw [List.getElem?_map] at h
 cases e:ns[i]? with
 | none=>rw [e] at h;cases h
 | some n=>rw [e] at h;cases h;exact ⟨n,rfl,rfl⟩
def hfs (d:Int) (aw al:Addr):List (Str×V):=putF "lamps" (.ref al) (putF "ways" (.ref aw) (putF "doors" (.int d) []))
theorem s_lw:¬ (("lamps":Str)="ways"):=by decide +kernel
theorem s_ld:¬ (("lamps":Str)="doors"):=by decide +kernel
theorem s_wd:¬ (("ways":Str)="doors"):=by decide +kernel
theorem hfs_doors (d:Int) (aw al:Addr):(hfs d aw al).lookup ("doors":Str)=some (.int d):=by
 unfold hfs;rw [lookup_putF,if_neg (fun z=>s_ld z.symm),lookup_putF,if_neg (fun z=>s_wd z.symm),lookup_putF,if_pos rfl]
theorem hfs_ways (d:Int) (aw al:Addr):(hfs d aw al).lookup ("ways":Str)=some (.ref aw):=by
 unfold hfs;rw [lookup_putF,if_neg (fun z=>s_lw z.symm),lookup_putF,if_pos rfl]
theorem hfs_lamps (d:Int) (aw al:Addr):(hfs d aw al).lookup ("lamps":Str)=some (.ref al):=by
 unfold hfs;rw [lookup_putF,if_pos rfl]
theorem hfs_no (d:Int) (aw al:Addr) {m:Str} (h1:¬ m="lamps") (h2:¬ m="ways") (h3:¬ m="doors"):(hfs d aw al).lookup m=none:=by
 unfold hfs;rw [lookup_putF,if_neg h1,lookup_putF,if_neg h2,lookup_putF,if_neg h3];rfl
structure HouseAt (C:Addr) (H:Hp) (p:Addr) (d:Int) (aw:Addr) (rs:List Addr) (rss:List (List Int)) (al:Addr) (ls:List Bool):Prop where
 ob:∃ dx,H p=some (.ins C dx (hfs d aw al))
 ways:Mat H aw rs rss
 lamps:H al=some (.lst (ls.map V.bl))
theorem HouseAt.same {C:Addr} {H H':Hp} {p:Addr} {d:Int} {aw:Addr} {rs:List Addr} {rss:List (List Int)} {al:Addr} {ls:List Bool} (e:Same H H') (h:HouseAt C H p d aw rs rss al ls):HouseAt C H' p d aw rs rss al ls :=
 ⟨let ⟨dx,q⟩:=h.ob;⟨dx,e _ _ q⟩,h.ways.same e,e _ _ h.lamps⟩
structure Grown (H H':Hp) (l:Addr) (rs:List Addr) (f:Nat→List Int):Prop where
 top:H' l=some (.lst (rs.map V.ref))
 row:∀ (j:Nat) (b:Addr),rs[j]?=some b→H' b=some (.lst ((f j).map V.int))
 nd:(l :: rs).Nodup
 new:∀ b∈l :: rs,H b=none
 same:Same H H'
theorem Grown.start {H:Hp} {l:Addr} {f:Nat→List Int} (hl:H l=none):Grown H (upd H l (.lst [])) l [] f :=
 ⟨upd_same,fun j b h=>by simp at h,by simp,fun b hb=>by rw [List.mem_singleton.mp hb];exact hl,Same.upd_new hl⟩
theorem Grown.fresh {H H':Hp} {l:Addr} {rs:List Addr} {f:Nat→List Int} (G:Grown H H' l rs f) {p:Addr} (hp:H' p=none):p∉l :: rs:=fun hm=>by
 rcases List.mem_cons.mp hm with rfl | hm
 ·rw [G.top] at hp;cases hp
 ·obtain ⟨j,hj⟩:=List.getElem?_of_mem hm
  rw [G.row j p hj] at hp;cases hp
theorem Grown.snoc {H H':Hp} {l p:Addr} {rs:List Addr} {f:Nat→List Int} (G:Grown H H' l rs f) (hp:H' p=none) :
  Grown H (upd (upd H' p (.lst ((f rs.length).map V.int))) l (.lst (rs.map V.ref++[.ref p]))) l (rs++[p]) f:=by
 have np:=G.fresh hp
 have hpl:p≠l:=fun z=>np (by rw [z];exact List.mem_cons_self)
 have nl:l∉rs:=(List.nodup_cons.mp G.nd).1
 refine ⟨?_,fun j b hj=>?_,?_,fun b hb=>?_,fun b o e=>?_⟩
 ·rw [upd_same,List.map_append];rfl
 ·have hbl:b≠l:=fun z=>by
   have hm:=List.mem_of_getElem? hj
   rcases List.mem_append.mp hm with hm | hm
   ·exact nl (z ▸ hm)
   ·exact hpl ((List.mem_singleton.mp hm).symm.trans z)
  rw [upd_ne hbl]
  by_cases hlt:j < rs.length
  ·rw [List.getElem?_append_left hlt] at hj
   have hbp:b≠p:=fun z=>np (List.mem_cons_of_mem _ (z ▸ List.mem_of_getElem? hj))
   rw [upd_ne hbp];exact G.row j b hj
  ·obtain ⟨hj1,_⟩:=List.getElem?_eq_some_iff.mp hj
   have hj2:j=rs.length:=by rw [List.length_append,List.length_singleton] at hj1;omega
   subst hj2
   rw [List.getElem?_append_right (Nat.le_refl _),Nat.sub_self] at hj
   cases hj
   rw [upd_same]
 ·have:(l :: (rs++[p])).Nodup:=by
   rw [← List.cons_append]
   exact nd_snoc G.nd np
  exact this
 ·have hb:b∈(l :: rs)++[p]:=hb
  rcases List.mem_append.mp hb with hb | hb
  ·exact G.new b hb
  ·rw [List.mem_singleton.mp hb];exact G.same.free hp
 ·have hbl:b≠l:=ne_of_none e (G.new l List.mem_cons_self)
  have e':=G.same b o e
  rw [upd_ne hbl,upd_ne (ne_of_none e' hp)]
  exact e'
theorem Grown.mat {H H':Hp} {l:Addr} {rs:List Addr} {f:Nat→List Int} (G:Grown H H' l rs f):Mat H' l rs ((List.range rs.length).map f) :=
 ⟨G.top,by simp,fun i r row h1 h2=>by
  rw [List.getElem?_map] at h2
  obtain ⟨hi,_⟩:=List.getElem?_eq_some_iff.mp h1
  rw [List.getElem?_range hi] at h2
  cases h2
  exact G.row i r h1,G.nd⟩
theorem Grown.step {H H' H'':Hp} {l p:Addr} {rs:List Addr} {f:Nat→List Int} (G:Grown H H' l rs f) (hp:H' p=none) (top:H'' l=some (.lst ((rs++[p]).map V.ref))) (row:H'' p=some (.lst ((f rs.length).map V.int)))
  (keep:∀ b o,b≠l→(b∈rs∨H b≠none)→H' b=some o→H'' b=some o):Grown H H'' l (rs++[p]) f:=by
 have np:=G.fresh hp
 have hpl:p≠l:=fun z=>np (by rw [z];exact List.mem_cons_self)
 have nl:l∉rs:=(List.nodup_cons.mp G.nd).1
 refine ⟨top,fun j b hj=>?_,?_,fun b hb=>?_,fun b o e=>?_⟩
 ·by_cases hlt:j < rs.length
  ·rw [List.getElem?_append_left hlt] at hj
   have hm:=List.mem_of_getElem? hj
   exact keep b _ (fun z=>nl (z ▸ hm)) (.inl hm) (G.row j b hj)
  ·obtain ⟨hj1,_⟩:=List.getElem?_eq_some_iff.mp hj
   have hj2:j=rs.length:=by rw [List.length_append,List.length_singleton] at hj1;omega
   subst hj2
   rw [List.getElem?_append_right (Nat.le_refl _),Nat.sub_self] at hj
   cases hj
   exact row
 ·have:(l :: (rs++[p])).Nodup:=by
   rw [← List.cons_append]
   exact nd_snoc G.nd np
  exact this
 ·have hb:b∈(l :: rs)++[p]:=hb
  rcases List.mem_append.mp hb with hb | hb
  ·exact G.new b hb
  ·rw [List.mem_singleton.mp hb];exact G.same.free hp
 ·have hbl:b≠l:=ne_of_none e (G.new l List.mem_cons_self)
  exact keep b o hbl (.inr (by rw [e];intro z;cases z)) (G.same b o e)
theorem Grown.matOf {H H':Hp} {l:Addr} {rs:List Addr} {rss:List (List Int)} (G:Grown H H' l rs (fun j=>rss.getD j [])) (hlen:rs.length=rss.length):Mat H' l rs rss:=by
 have:=G.mat
 rw [hlen] at this
 have e:(List.range rss.length).map (fun j=>rss.getD j [])=rss:=by
  apply List.ext_getElem
  ·simp
  ·intro i h1 h2
   simp [List.getD_eq_getElem?_getD,List.getElem?_eq_getElem h2]
 rw [e] at this
 exact this
theorem comp_copy {K:PySem.W.Frag} {H:Hp} {a:Addr} {rs:List Addr} {rss:List (List Int)} {σ:L2.St} {Q:VK} (M:Mat H a rs rss) (h900:rss.length≤900)
  (q:∀ aw rs' H',Same H H'→Mat H' aw rs' rss→(∀ b∈aw :: rs',H b=none)→Q (.ref aw) H') :
  CompR [none] (gName 0) (tCB (fun xs H Q=>∃ p ys,xs=[.ref p]∧(SqL K H p ys∨SqT K H p ys)∧∀ l,H l=none→Q (.ref l) (upd H l (.lst ys))) (tCons (tVar 0) tNil)) σ Q (Itl K a) H:=by
 refine comp_list (xs:=rs.map V.ref) (fun aw i ys H'=>∃ rs',ys=rs'.map V.ref∧rs'.length=i∧Grown H H' aw rs' (fun j=>rss.getD j [])) (fun aw haw=>⟨[],rfl,rfl,Grown.start haw⟩) (fun aw i ys H' haw _ p=>by obtain ⟨rs',_,_,G⟩:=p;exact SqL.of (G.same _ _ M.top)) (fun aw i x ys H' haw hx p=>?_) (fun aw ys H' haw p=>?_)
 ·obtain ⟨rs',rfl,hlen,G⟩:=p
  obtain ⟨r,rfl,hr'⟩:=ref_map_inv hx
  obtain ⟨hi,_⟩:=List.getElem?_eq_some_iff.mp hr'
  have hi':i < rss.length:=by rw [← M.len];exact hi
  have hrow:=M.row i r rss[i] hr' (List.getElem?_eq_getElem hi')
  have egd:rss.getD rs'.length []=rss[i]:=by rw [hlen,List.getD_eq_getElem?_getD,List.getElem?_eq_getElem hi',Option.getD_some]
  walk_at "w";refine ⟨Wk.set rfl,?_⟩
  walk_at "w";refine ⟨r,_,rfl,.inl (SqL.of (G.same _ _ hrow)),fun l0 hl0=>?_⟩
  have hla:aw≠l0:=fun z=>G.fresh hl0 (by rw [z];exact List.mem_cons_self)
  refine ⟨by rw [upd_ne hla];exact G.top,small1000 (by simp;omega),rs'++[l0],by simp,by simp [hlen],?_⟩
  have:=G.snoc hl0
  rw [egd] at this
  exact this
 ·obtain ⟨rs',rfl,hlen,G⟩:=p
  have hlen':rs'.length=rss.length:=by rw [hlen,List.length_map,M.len]
  refine q aw rs' H' G.same ?_ G.new
  have:=G.mat
  rw [hlen'] at this
  have e:(List.range rss.length).map (fun j=>rss.getD j [])=rss:=by
   apply List.ext_getElem
   ·simp
   ·intro i h1 h2
    simp [List.getD_eq_getElem?_getD,List.getElem?_eq_getElem h2]
  rw [e] at this
  exact this
def lI (row:List Int):PyData:=.list (row.map PyData.int)
theorem dts_int (K:PySem.W.Frag) (H:Hp):∀ ns:List Int,Dts K H (ns.map V.int) (ns.map PyData.int)
 | []=>.nil
 | b :: r=>.cons (.int b) (dts_int K H r)
theorem lay_int:∀ ns:List Int,PyData.canLayAll0 (ns.map PyData.int)=true
 | []=>rfl
 | _ :: r=>by simp [PyData.canLayAll0,PyData.canLay0,lay_int r]
theorem depth_int:∀ ns:List Int,PyData.depthAll (ns.map PyData.int)=0
 | []=>rfl
 | _ :: r=>by simp [PyData.depthAll,PyData.depth,depth_int r]
theorem lay_lI:∀ rss:List (List Int),PyData.canLayAll0 (rss.map lI)=true
 | []=>rfl
 | _ :: r=>by simp [PyData.canLayAll0,PyData.canLay0,lay_lI r,lI,lay_int]
theorem depth_lI:∀ rss:List (List Int),PyData.depthAll (rss.map lI)≤1
 | []=>by simp [PyData.depthAll]
 | _ :: r=>by have:=depth_lI r;simp only [List.map_cons,PyData.depthAll,PyData.depth,lI,depth_int];omega
theorem eqv_int (ns ms:List Int):PyData.eqv (.list (ns.map PyData.int)) (.list (ms.map PyData.int))=decide (ns=ms):=by
 simp only [PyData.eqv];exact PySem.W.ked_eqvAll ns ms
theorem eqvAll_lI:∀ rss sss:List (List Int),PyData.eqvAll (rss.map lI) (sss.map lI)=decide (rss=sss)
 | [],[]=>by simp [PyData.eqvAll]
 | [],_ :: _=>by simp [PyData.eqvAll]
 | _ :: _,[]=>by simp [PyData.eqvAll]
 | a :: r,b :: t=>by
  simp only [List.map_cons,PyData.eqvAll,eqvAll_lI r t,lI,eqv_int]
  by_cases h:a=b <;> by_cases h':r=t <;> simp [h,h']
def SmallW (ws:List Int):Prop:=∀ x∈ws,-1000000≤x∧x≤1000000
def bkf (d:Int) (nb:Addr):List (Str×V):=putF "noted" (.ref nb) (putF "doors" (.int d) [])
theorem s_nd:¬ (("noted":Str)="doors"):=by decide +kernel
theorem bkf_doors (d:Int) (nb:Addr):(bkf d nb).lookup ("doors":Str)=some (.int d):=by
 unfold bkf;rw [lookup_putF,if_neg (fun z=>s_nd z.symm),lookup_putF,if_pos rfl]
theorem bkf_noted (d:Int) (nb:Addr):(bkf d nb).lookup ("noted":Str)=some (.ref nb):=by
 unfold bkf;rw [lookup_putF,if_pos rfl]
theorem bkf_no (d:Int) (nb:Addr) {m:Str} (h1:¬ m="noted") (h2:¬ m="doors"):(bkf d nb).lookup m=none:=by
 unfold bkf;rw [lookup_putF,if_neg h1,lookup_putF,if_neg h2];rfl
def bkv (x:List Int×Bool):List Key×V:=(x.1.map Sum.inl,.bl x.2)
def saidV (kvs:List (List Int×Bool)) (ws:List Int):V:=((saidO kvs ws).map V.bl).getD .non
theorem inl_inj:∀ {a b:List Int},a.map (Sum.inl:Int→Key)=b.map Sum.inl→a=b
 | [],[],_=>rfl
 | [],_ :: _,h=>by simp at h
 | _ :: _,[],h=>by simp at h
 | x :: a,y :: b,h=>by
  simp only [List.map_cons,List.cons.injEq] at h
  rw [Sum.inl.inj h.1,inl_inj h.2]
theorem valV_bkv (ws:List Int):∀ kvs:List (List Int×Bool),valV (kvs.map bkv) (ws.map Sum.inl)=(saidO kvs ws).map V.bl
 | []=>rfl
 | (w,b) :: r=>by
  by_cases h:w=ws
  ·subst h
   rw [List.map_cons,show bkv (w,b)=(w.map Sum.inl,V.bl b) from rfl,valV_pos (p:=(w.map Sum.inl,V.bl b)) (k:=w.map Sum.inl) rfl]
   simp [saidO,bkv]
  ·rw [List.map_cons,valV_neg (fun z=>h (inl_inj z)),valV_bkv ws r]
   simp [saidO,h]
theorem kv_inl (ws:List Int):(ws.map (Sum.inl:Int→Key)).map kV=ws.map V.int:=by
 rw [List.map_map];exact congrArg (fun f=>List.map f ws) (funext fun x=>rfl)
structure BookAt (C:Addr) (H:Hp) (p:Addr) (d:Int) (nb:Addr) (kvs:List (List Int×Bool)):Prop where
 ob:∃ dx,H p=some (.ins C dx (bkf d nb))
 noted:H nb=some (.dT (kvs.map bkv))
 nd:(kvs.map Prod.fst).Nodup
theorem BookAt.same {C:Addr} {H H':Hp} {p:Addr} {d:Int} {nb:Addr} {kvs:List (List Int×Bool)} (e:Same H H') (h:BookAt C H p d nb kvs):BookAt C H' p d nb kvs :=
 ⟨let ⟨dx,q⟩:=h.ob;⟨dx,e _ _ q⟩,e _ _ h.noted,h.nd⟩
theorem saidO_fresh {kvs:List (List Int×Bool)} {ws:List Int} (h:saidO kvs ws=none):ws∉kvs.map Prod.fst:=fun z=>by
 obtain ⟨kv,h1,rfl⟩:=List.mem_map.mp z
 unfold saidO at h
 rw [Option.map_eq_none_iff,List.find?_eq_none] at h
 exact h kv h1 (by simp)
theorem book_nd {kvs:List (List Int×Bool)} {ws:List Int} {lit:Bool} (h:(kvs.map Prod.fst).Nodup) (hn:saidO kvs ws=none):((kvs++[(ws,lit)]).map Prod.fst).Nodup:=by
 rw [List.map_append,List.map_cons,List.map_nil]
 refine List.nodup_append.mpr ⟨h,by simp,fun a ha b hb e=>?_⟩
 have e:a=ws:=by rw [e,List.mem_singleton.mp hb]
 exact saidO_fresh hn (by rw [← e];exact ha)
theorem book_again {kvs:List (List Int×Bool)} {ws:List Int} {lit:Bool} (h:(kvs.map Prod.fst).Nodup) (hs:saidO kvs ws=some lit):putK (kvs.map bkv) (ws.map Sum.inl) (.bl lit)=kvs.map bkv:=by
 unfold putK
 rw [if_pos (by rw [valV_any,valV_bkv,hs];rfl),List.map_map]
 refine List.map_congr_left fun kv hk=>?_
 show (if (kv.1.map Sum.inl:List Key)=ws.map Sum.inl then ((kv.1.map Sum.inl:List Key),V.bl lit) else bkv kv)=bkv kv
 by_cases e:kv.1=ws
 ·rw [if_pos (by rw [e])]
  have:kv.2=lit:=by
   unfold saidO at hs
   obtain ⟨kv',h1,h2⟩:=Option.map_eq_some_iff.mp hs
   have h3:=List.find?_some h1
   have h4:=List.mem_of_find?_eq_some h1
   have h5:kv'.1=kv.1:=by rw [e];simpa using h3
   obtain ⟨i,hi⟩:=List.getElem?_of_mem hk
   obtain ⟨j,hj⟩:=List.getElem?_of_mem h4
   have hij:i=j:=by
    refine (List.getElem?_inj (l:=kvs.map Prod.fst) (by rw [List.length_map];exact (List.getElem?_eq_some_iff.mp hi).1) h).mp ?_
    rw [List.getElem?_map,List.getElem?_map,hi,hj]
    simp [h5]
   subst hij
   rw [hi] at hj
   rw [Option.some.inj hj];exact h2
  rw [← this];rfl
 ·rw [if_neg (fun z=>e (inl_inj z))]
structure SaidAt (H H':Hp) (l:Addr) (ts as:List Addr) (kvs:List (List Int×Bool)):Prop where
 top:H' l=some (.lst (ts.map V.ref))
 tup:∀ (i:Nat) t a w b,ts[i]?=some t→as[i]?=some a→kvs[i]?=some (w,b)→H' t=some (.tup [.ref a,.bl b])
 row:∀ (i:Nat) a w b,as[i]?=some a→kvs[i]?=some (w,b)→H' a=some (.lst (w.map V.int))
 nd:(l :: as).Nodup
 new:∀ b∈l :: as,H b=none
 same:Same H H'
structure Parts (d:Int) (rss rss2:List (List Int)) (ls ls2:List Bool) (a b:Int) (w:List Int):Prop where
 ok:WordOk d w
 un:lampI ls (walkI rss a w)≠lampI ls2 (walkI rss2 b w)
 least:∀ v,WordOk d v→slt v w→lampI ls (walkI rss a v)=lampI ls2 (walkI rss2 b v)
structure PairIn (d:Int) (rss rss2:List (List Int)) (ls ls2:List Bool) (a b:Int):Prop where
 w1:Ways d rss
 w2:Ways d rss2
 l1:ls.length=rss.length
 l2:ls2.length=rss2.length
 a0:0≤a
 a1:a < rss.length
 b0:0≤b
 b1:b < rss2.length
 d1:1≤d
 d6:d≤6
 sz:rss.length * rss2.length≤100000
theorem getElem?_snoc {α:Type} {l:List α} {x y:α} {i:Nat} (h:(l++[x])[i]?=some y):(i < l.length∧l[i]?=some y)∨(i=l.length∧y=x):=by
 rcases Nat.lt_or_ge i l.length with hl | hl
 ·rw [List.getElem?_append_left hl] at h;exact .inl ⟨hl,h⟩
 ·rw [List.getElem?_append_right hl] at h
  have hz:i - l.length=0:=by
   have:=(List.getElem?_eq_some_iff.mp h).1
   simp at this;omega
  rw [hz] at h
  simp at h
  exact .inr ⟨by omega,h.symm⟩
theorem take_snocA {α:Type} {w:List α} {i:Nat} {x:α} (h:w[i]?=some x):w.take (i+1)=w.take i++[x]:=by
 rw [List.take_add_one,h];rfl
structure LA where
 bk:Addr
 nb:Addr
 ha:Addr
 ta:Addr
 li:Addr
 ro:Addr
 hA:List Addr
 tA:List Addr
 lA:List Addr
 rA:List Addr
def mutL (p:Addr) (L:LA):List Addr:=p :: L.bk :: L.nb :: L.ha :: L.ta :: L.li :: L.ro :: L.rA
def wdsL (L:LA):List Addr:=L.hA++L.tA++L.lA
def ownL (p:Addr) (L:LA):List Addr:=mutL p L++wdsL L
structure LFs (fs:List (Str×V)) (d:Int) (L:LA) (f:Nat):Prop where
 book:fs.lookup ("book":Str)=some (.ref L.bk)
 doors:fs.lookup ("doors":Str)=some (.int d)
 heads:fs.lookup ("heads":Str)=some (.ref L.ha)
 tails:fs.lookup ("tails":Str)=some (.ref L.ta)
 lines:fs.lookup ("lines":Str)=some (.ref L.li)
 rows:fs.lookup ("rows":Str)=some (.ref L.ro)
 filled:fs.lookup ("filled":Str)=some (.int (f:Int))
 no:∀ m:Str,m∉(["book","doors","heads","tails","lines","rows","filled"]:List Str)→fs.lookup m=none
 len:fs.length≤100
structure LrnAt (C CB:Addr) (H:Hp) (p:Addr) (d:Int) (L:LA) (kn:Bk) (heads tails:List (List Int)) (rows:List (List Bool)) (f:Nat):Prop where
 ob:∃ dx fs,H p=some (.ins C dx fs)∧LFs fs d L f
 book:BookAt CB H L.bk d L.nb kn
 hds:H L.ha=some (.lst (L.hA.map V.ref))
 hdw:LsAt V.int H L.hA heads
 tls:H L.ta=some (.lst (L.tA.map V.ref))
 tlw:LsAt V.int H L.tA tails
 lns:H L.li=some (.lst (L.lA.map V.ref))
 lnw:LsAt V.int H L.lA (linesOf d heads)
 rws:H L.ro=some (.lst (L.rA.map V.ref))
 rww:LsAt V.bl H L.rA rows
 nd:(mutL p L).Nodup
 sep:∀ a∈wdsL L,a∉mutL p L
theorem _root_.L2.LsAt.keep {α:Type} {g:α→V} {H H':Hp} {as:List Addr} {ws:List (List α)} (l:LsAt g H as ws) (k:∀ b∈as,∀ o,H b=some o→H' b=some o):LsAt g H' as ws :=
 ⟨l.len,fun i a w h1 h2=>k a (List.mem_of_getElem? h1) _ (l.row i a w h1 h2)⟩
theorem _root_.L2.LsAt.snoc {α:Type} {g:α→V} {H:Hp} {as:List Addr} {ws:List (List α)} (l:LsAt g H as ws) {a:Addr} {w:List α} (h:H a=some (.lst (w.map g))):LsAt g H (as++[a]) (ws++[w]):=by
 refine ⟨by rw [List.length_append,List.length_append,l.len];rfl,fun i b v h1 h2=>?_⟩
 by_cases hi:i < as.length
 ·rw [List.getElem?_append_left hi] at h1
  rw [List.getElem?_append_left (by rw [← l.len];exact hi)] at h2
  exact l.row i b v h1 h2
 ·have h3:=(List.getElem?_eq_some_iff.mp h1).1
  rw [List.length_append,List.length_singleton] at h3
  have hi2:i=as.length:=by omega
  rw [hi2,List.getElem?_append_right (Nat.le_refl _),Nat.sub_self] at h1
  rw [hi2,l.len,List.getElem?_append_right (Nat.le_refl _),Nat.sub_self] at h2
  cases h1;cases h2
  exact h
theorem _root_.L2.LsAt.app {α:Type} {g:α→V} {H:Hp} {as bs:List Addr} {ws vs:List (List α)} (l:LsAt g H as ws) (m:LsAt g H bs vs):LsAt g H (as++bs) (ws++vs):=by
 refine ⟨by rw [List.length_append,List.length_append,l.len,m.len],fun i b v h1 h2=>?_⟩
 by_cases hi:i < as.length
 ·rw [List.getElem?_append_left hi] at h1
  rw [List.getElem?_append_left (by rw [← l.len];exact hi)] at h2
  exact l.row i b v h1 h2
 ·rw [List.getElem?_append_right (by omega)] at h1
  rw [List.getElem?_append_right (by rw [← l.len];omega),← l.len] at h2
  exact m.row _ b v h1 h2
theorem _root_.L2.LsAt.get {α:Type} {g:α→V} {H:Hp} {as:List Addr} {ws:List (List α)} (l:LsAt g H as ws) {i:Nat} {w:List α} (h:ws[i]?=some w):∃ a,as[i]?=some a∧(as.map V.ref)[i]?=some (.ref a)∧H a=some (.lst (w.map g)):=by
 have hi:i < as.length:=by rw [l.len];exact (List.getElem?_eq_some_iff.mp h).1
 refine ⟨as[i],List.getElem?_eq_getElem hi,by rw [List.getElem?_map,List.getElem?_eq_getElem hi];rfl,l.row i _ w (List.getElem?_eq_getElem hi) h⟩
theorem LFs.of {fs:List (Str×V)} {d:Int} {L L':LA} {f:Nat} (h:LFs fs d L f) (e1:L'.bk=L.bk) (e2:L'.ha=L.ha) (e3:L'.ta=L.ta) (e4:L'.li=L.li) (e5:L'.ro=L.ro):LFs fs d L' f :=
 ⟨by rw [e1];exact h.book,h.doors,by rw [e2];exact h.heads,by rw [e3];exact h.tails,by rw [e4];exact h.lines,by rw [e5];exact h.rows,h.filled,h.no,h.len⟩
theorem putF_len {f:Str} {v:V}:∀ {fs:List (Str×V)},fs.lookup f≠none→(putF f v fs).length=fs.length
 | [],h=>absurd rfl h
 | (g,x) :: r,h=>by
  unfold putF
  by_cases e:g=f
  ·rw [if_pos e];rfl
  ·rw [if_neg e,List.length_cons,List.length_cons,putF_len]
   intro z
   apply h
   have hb:(f == g)=false:=beq_eq_false_iff_ne.mpr fun z=>e z.symm
   simp only [List.lookup,hb]
   exact z
theorem LFs.setF {fs:List (Str×V)} {d:Int} {L:LA} {f:Nat} (h:LFs fs d L f) (f':Nat):LFs (putF "filled" (.int (f':Int)) fs) d L f':=by
 have n:∀ m:Str,m≠"filled"→(putF "filled" (.int (f':Int)) fs).lookup m=fs.lookup m:=fun m hm=>by rw [lookup_putF,if_neg hm]
 refine ⟨by rw [n _ (by decide +kernel)];exact h.book,by rw [n _ (by decide +kernel)];exact h.doors,by rw [n _ (by decide +kernel)];exact h.heads,by rw [n _ (by decide +kernel)];exact h.tails,by rw [n _ (by decide +kernel)];exact h.lines,by rw [n _ (by decide +kernel)];exact h.rows,by rw [lookup_putF,if_pos rfl],fun m hm=>?_,?_⟩
 ·rw [n m fun z=>hm (by rw [z];simp)];exact h.no m hm
 ·rw [putF_len (by rw [h.filled];intro z;cases z)];exact h.len
section
variable {C CB:Addr} {H H':Hp} {p:Addr} {d:Int} {L:LA} {kn:Bk} {heads tails:List (List Int)} {rows:List (List Bool)} {f:Nat}
theorem own_mut {b:Addr} (h:b∈mutL p L):b∈ownL p L:=List.mem_append_left _ h
theorem own_wd {b:Addr} (h:b∈wdsL L):b∈ownL p L:=List.mem_append_right _ h
theorem wd_h {b:Addr} (h:b∈L.hA):b∈wdsL L:=List.mem_append_left _ (List.mem_append_left _ h)
theorem wd_t {b:Addr} (h:b∈L.tA):b∈wdsL L:=List.mem_append_left _ (List.mem_append_right _ h)
theorem wd_l {b:Addr} (h:b∈L.lA):b∈wdsL L:=List.mem_append_right _ h
theorem mut_p:p∈mutL p L:=by simp [mutL]
theorem mut_bk:L.bk∈mutL p L:=by simp [mutL]
theorem mut_nb:L.nb∈mutL p L:=by simp [mutL]
theorem mut_ha:L.ha∈mutL p L:=by simp [mutL]
theorem mut_ta:L.ta∈mutL p L:=by simp [mutL]
theorem mut_li:L.li∈mutL p L:=by simp [mutL]
theorem mut_ro:L.ro∈mutL p L:=by simp [mutL]
theorem mut_r {b:Addr} (h:b∈L.rA):b∈mutL p L:=by simp [mutL,h]
theorem LrnAt.keep (l:LrnAt C CB H p d L kn heads tails rows f) (k:∀ b∈ownL p L,∀ o,H b=some o→H' b=some o):LrnAt C CB H' p d L kn heads tails rows f:=by
 obtain ⟨dx,fs,h1,h2⟩:=l.ob
 obtain ⟨bx,hb⟩:=l.book.ob
 exact ⟨⟨dx,fs,k _ (own_mut mut_p) _ h1,h2⟩,⟨⟨bx,k _ (own_mut mut_bk) _ hb⟩,k _ (own_mut mut_nb) _ l.book.noted,l.book.nd⟩,k _ (own_mut mut_ha) _ l.hds,l.hdw.keep fun b hb=>k b (own_wd (wd_h hb)),k _ (own_mut mut_ta) _ l.tls,l.tlw.keep fun b hb=>k b (own_wd (wd_t hb)),
  k _ (own_mut mut_li) _ l.lns,l.lnw.keep fun b hb=>k b (own_wd (wd_l hb)),k _ (own_mut mut_ro) _ l.rws,l.rww.keep fun b hb=>k b (own_mut (mut_r hb)),l.nd,l.sep⟩
theorem LrnAt.same (l:LrnAt C CB H p d L kn heads tails rows f) (e:Same H H'):LrnAt C CB H' p d L kn heads tails rows f:=l.keep fun b _ o q=>e b o q
theorem LrnAt.has (l:LrnAt C CB H p d L kn heads tails rows f) {b:Addr} (h:b∈ownL p L):∃ o,H b=some o:=by
 rcases List.mem_append.mp h with h | h
 ·simp only [mutL,List.mem_cons] at h
  rcases h with rfl | rfl | rfl | rfl | rfl | rfl | rfl | h
  ·obtain ⟨_,_,h,_⟩:=l.ob;exact ⟨_,h⟩
  ·obtain ⟨_,h⟩:=l.book.ob;exact ⟨_,h⟩
  ·exact ⟨_,l.book.noted⟩
  ·exact ⟨_,l.hds⟩
  ·exact ⟨_,l.tls⟩
  ·exact ⟨_,l.lns⟩
  ·exact ⟨_,l.rws⟩
  ·obtain ⟨_,_,h⟩:=l.rww.mem h;exact ⟨_,h⟩
 ·rcases List.mem_append.mp h with h | h
  ·rcases List.mem_append.mp h with h | h
   ·obtain ⟨_,_,h⟩:=l.hdw.mem h;exact ⟨_,h⟩
   ·obtain ⟨_,_,h⟩:=l.tlw.mem h;exact ⟨_,h⟩
  ·obtain ⟨_,_,h⟩:=l.lnw.mem h;exact ⟨_,h⟩
theorem LrnAt.notOwn (l:LrnAt C CB H p d L kn heads tails rows f) {b:Addr} (h:H b=none):b∉ownL p L:=fun z=>by
 obtain ⟨o,e⟩:=l.has z
 rw [h] at e;cases e
end
structure LStep (p:Addr) (L L':LA) (H H':Hp):Prop where
 kp:∀ b o,b∉mutL p L→H b=some o→H' b=some o
 own:∀ b∈ownL p L',b∈ownL p L∨H b=none
 mu:∀ b∈mutL p L',b∈mutL p L∨H b=none
theorem LStep.of {p:Addr} {L:LA} {H H':Hp} (k:∀ b o,b∉mutL p L→H b=some o→H' b=some o):LStep p L L H H':=⟨k,fun b h=>.inl h,fun b h=>.inl h⟩
theorem LStep.same {p:Addr} {L:LA} {H H':Hp} (e:Same H H'):LStep p L L H H':=.of fun b o _ q=>e b o q
theorem LStep.trans {p:Addr} {L L1 L2:LA} {H H1 H2:Hp} (a:LStep p L L1 H H1) (b:LStep p L1 L2 H1 H2):LStep p L L2 H H2:=by
 have fr:∀ c,H1 c=none→c∈mutL p L∨H c=none:=fun c e=>by
  by_cases hc:c∈mutL p L
  ·exact .inl hc
  ·refine .inr ?_
   cases hh:H c with
   | none=>rfl
   | some o=>rw [a.kp c o hc hh] at e;cases e
 refine ⟨fun c o hc e=>?_,fun c hc=>?_,fun c hc=>?_⟩
 ·refine b.kp c o (fun z=>?_) (a.kp c o hc e)
  rcases a.mu c z with h | h
  ·exact hc h
  ·rw [h] at e;cases e
 ·rcases b.own c hc with h | h
  ·exact a.own c h
  ·rcases fr c h with h | h
   ·exact .inl (own_mut h)
   ·exact .inr h
 ·rcases b.mu c hc with h | h
  ·exact a.mu c h
  ·exact fr c h
section
variable {C CB:Addr} {H H':Hp} {p:Addr} {d:Int} {L:LA} {kn:Bk} {heads tails:List (List Int)} {rows:List (List Bool)} {f:Nat}
theorem LrnAt.setF (l:LrnAt C CB H p d L kn heads tails rows f) {dx:Addr} {fs:List (Str×V)} {f':Nat} (h:LFs fs d L f'):LrnAt C CB (upd H p (.ins C dx fs)) p d L kn heads tails rows f'∧LStep p L L H (upd H p (.ins C dx fs)):=by
 have k:∀ b o,b≠p→H b=some o→upd H p (.ins C dx fs) b=some o:=fun b o hb e=>by rw [upd_ne hb];exact e
 have nd:=l.nd
 simp only [mutL,List.nodup_cons,List.mem_cons,not_or] at nd
 obtain ⟨⟨n1,n2,n3,n4,n5,n6,n7⟩,_⟩:=nd
 obtain ⟨bx,hb⟩:=l.book.ob
 have sw:∀ b∈wdsL L,b≠p:=fun b hb z=>l.sep b hb (by rw [z];exact mut_p)
 refine ⟨⟨⟨dx,fs,upd_same,h⟩,⟨⟨bx,k _ _ (Ne.symm n1) hb⟩,k _ _ (Ne.symm n2) l.book.noted,l.book.nd⟩,k _ _ (Ne.symm n3) l.hds,l.hdw.keep fun b hb o=>k b o (sw b (wd_h hb)),k _ _ (Ne.symm n4) l.tls,l.tlw.keep fun b hb o=>k b o (sw b (wd_t hb)),
  k _ _ (Ne.symm n5) l.lns,l.lnw.keep fun b hb o=>k b o (sw b (wd_l hb)),k _ _ (Ne.symm n6) l.rws,l.rww.keep fun b hb o=>k b o fun z=>n7 (by rw [← z];exact hb),l.nd,l.sep⟩,.of fun b o hb e=>k b o (fun z=>hb (by rw [z];exact mut_p)) e⟩
theorem _root_.L2.LsAt.set {α:Type} {g:α→V} {as:List Addr} {ws:List (List α)} (l:LsAt g H as ws) (hn:as.Nodup) {k:Nat} {a:Addr} (ha:as[k]?=some a) (w:List α):LsAt g (upd H a (.lst (w.map g))) as (ws.set k w):=by
 refine ⟨by rw [List.length_set];exact l.len,fun i b v h1 h2=>?_⟩
 by_cases hi:k=i
 ·subst hi
  rw [ha] at h1;cases h1
  rw [List.getElem?_set_self (by rw [← l.len];exact (List.getElem?_eq_some_iff.mp ha).1)] at h2
  cases h2
  exact upd_same
 ·rw [List.getElem?_set_ne hi] at h2
  have hb:b≠a:=fun z=>by
   subst z
   obtain ⟨q1,e1⟩:=List.getElem?_eq_some_iff.mp ha
   obtain ⟨q2,e2⟩:=List.getElem?_eq_some_iff.mp h1
   exact hi ((List.getElem_inj hn).mp (e1.trans e2.symm))
  rw [upd_ne hb]
  exact l.row i b v h1 h2
theorem LrnAt.rnd (l:LrnAt C CB H p d L kn heads tails rows f):L.rA.Nodup∧p∉L.rA∧L.bk∉L.rA∧L.nb∉L.rA∧L.ha∉L.rA∧L.ta∉L.rA∧L.li∉L.rA∧L.ro∉L.rA:=by
 have nd:=l.nd
 simp only [mutL,List.nodup_cons,List.mem_cons,not_or] at nd
 obtain ⟨⟨_,_,_,_,_,_,a1⟩,⟨_,_,_,_,_,a2⟩,⟨_,_,_,_,a3⟩,⟨_,_,_,a4⟩,⟨_,_,a5⟩,⟨_,a6⟩,a7,a8⟩:=nd
 exact ⟨a8,a1,a2,a3,a4,a5,a6,a7⟩
theorem LrnAt.setR (l:LrnAt C CB H p d L kn heads tails rows f) {k:Nat} {ra:Addr} (hr:L.rA[k]?=some ra) (r:List Bool):LrnAt C CB (upd H ra (.lst (r.map V.bl))) p d L kn heads tails (rows.set k r) f∧LStep p L L H (upd H ra (.lst (r.map V.bl))):=by
 have hm:=List.mem_of_getElem? hr
 have k:∀ b o,b≠ra→H b=some o→upd H ra (.lst (r.map V.bl)) b=some o:=fun b o hb e=>by rw [upd_ne hb];exact e
 obtain ⟨nd,n1,n2,n3,n4,n5,n6,n7⟩:=l.rnd
 have ne:∀ b,b∉L.rA→b≠ra:=fun b hb z=>hb (by rw [z];exact hm)
 obtain ⟨dx,fs,h1,h2⟩:=l.ob
 obtain ⟨bx,hb⟩:=l.book.ob
 have sw:∀ b∈wdsL L,b≠ra:=fun b hb z=>l.sep b hb (by rw [z];exact mut_r hm)
 exact ⟨⟨⟨dx,fs,k _ _ (ne _ n1) h1,h2⟩,⟨⟨bx,k _ _ (ne _ n2) hb⟩,k _ _ (ne _ n3) l.book.noted,l.book.nd⟩,k _ _ (ne _ n4) l.hds,l.hdw.keep fun b hb o=>k b o (sw b (wd_h hb)),k _ _ (ne _ n5) l.tls,l.tlw.keep fun b hb o=>k b o (sw b (wd_t hb)),
  k _ _ (ne _ n6) l.lns,l.lnw.keep fun b hb o=>k b o (sw b (wd_l hb)),k _ _ (ne _ n7) l.rws,l.rww.set nd hr r,l.nd,l.sep⟩,.of fun b o hb e=>k b o (fun z=>hb (by rw [z];exact mut_r hm)) e⟩
end
structure Small (heads tails:List (List Int)) (kn:Bk):Prop where
 hs:heads.length≤400
 ts:tails.length≤100000
 tw:∀ t∈tails,t.length≤100000
 ks:kn.length≤100000
theorem big6 {n:Nat} (h:n≤1000000):n < sizeLine:=Nat.lt_of_le_of_lt h (by decide)
structure LS (C CB:Addr) (H:Hp) (p:Addr) (d:Int) (L:LA) (kn:Bk) (heads tails:List (List Int)):Prop where
 ex:∃ rows f,LrnAt C CB H p d L kn heads tails rows f∧RowsOk d kn heads tails rows f
 I:LI d kn heads tails
 st:nextQ d kn heads tails≠none∨looseOf d kn heads tails=none
theorem LS.keep {C CB:Addr} {H H':Hp} {p:Addr} {d:Int} {L:LA} {kn:Bk} {heads tails:List (List Int)} (s:LS C CB H p d L kn heads tails) (k:∀ b∈ownL p L,∀ o,H b=some o→H' b=some o):LS C CB H' p d L kn heads tails:=by
 obtain ⟨rows,f,l,R⟩:=s.ex
 exact ⟨⟨rows,f,l.keep k,R⟩,s.I,s.st⟩
theorem LS.same {C CB:Addr} {H H':Hp} {p:Addr} {d:Int} {L:LA} {kn:Bk} {heads tails:List (List Int)} (s:LS C CB H p d L kn heads tails) (e:Same H H'):LS C CB H' p d L kn heads tails:=s.keep fun b _ o q=>e b o q
theorem LI.lines1000 {d:Int} {kn:Bk} {heads tails:List (List Int)} (I:LI d kn heads tails) (h:heads.length≤400):∀ l∈linesOf d heads,l.length≤1000:=fun l hl=>by
 have:=(I.lok hl).2
 omega
theorem wok_small {d:Int} {w:List Int} (h:WordOk d w) (hd:d≤6):SmallW w:=fun x hx=>by
 obtain ⟨h0,h1⟩:=h x hx
 constructor <;> omega
section
variable {C CB:Addr} {H H':Hp} {p:Addr} {d:Int} {L:LA} {kn:Bk} {heads tails:List (List Int)} {rows:List (List Bool)} {f:Nat}
theorem LrnAt.noted (l:LrnAt C CB H p d L kn heads tails rows f) {kn':Bk} (hb:BookAt CB H' L.bk d L.nb kn') (k:∀ y o,y≠L.nb→H y=some o→H' y=some o):LrnAt C CB H' p d L kn' heads tails rows f∧LStep p L L H H':=by
 have nd:=l.nd
 simp only [mutL,List.nodup_cons,List.mem_cons,not_or] at nd
 obtain ⟨⟨_,p2,_,_,_,_,_⟩,⟨_,_,_,_,_,_⟩,⟨c3,c4,c5,c6,c7⟩,_⟩:=nd
 obtain ⟨dx,fs,h1,h2⟩:=l.ob
 have sw:∀ b∈wdsL L,b≠L.nb:=fun b hb z=>l.sep b hb (by rw [z];exact mut_nb)
 exact ⟨⟨⟨dx,fs,k _ _ p2 h1,h2⟩,hb,k _ _ (Ne.symm c3) l.hds,l.hdw.keep fun b hb o=>k b o (sw b (wd_h hb)),k _ _ (Ne.symm c4) l.tls,l.tlw.keep fun b hb o=>k b o (sw b (wd_t hb)),
  k _ _ (Ne.symm c5) l.lns,l.lnw.keep fun b hb o=>k b o (sw b (wd_l hb)),k _ _ (Ne.symm c6) l.rws,l.rww.keep fun b hb o=>k b o fun z=>c7 (by rw [← z];exact hb),l.nd,l.sep⟩,.of fun b o hb e=>k b o (fun z=>hb (by rw [z];exact mut_nb)) e⟩
theorem LrnAt.tail (l:LrnAt C CB H p d L kn heads tails rows f) {e:Addr} {w:List Int} (he:H e=some (.lst (w.map V.int))) (ne:e∉mutL p L):LrnAt C CB (upd H L.ta (.lst ((L.tA++[e]).map V.ref))) p d { L with tA:=L.tA++[e] } kn heads (tails++[w]) rows f∧∀ b o,b≠L.ta→H b=some o→upd H L.ta (.lst ((L.tA++[e]).map V.ref)) b=some o:=by
 have k:∀ b o,b≠L.ta→H b=some o→upd H L.ta (.lst ((L.tA++[e]).map V.ref)) b=some o:=fun b o hb q=>by rw [upd_ne hb];exact q
 have nd:=l.nd
 simp only [mutL,List.nodup_cons,List.mem_cons,not_or] at nd
 obtain ⟨⟨_,_,_,p4,_,_,_⟩,⟨_,_,b4,_,_,_⟩,⟨_,c4,_,_,_⟩,⟨d4,_,_,_⟩,⟨e5,e6,e7⟩,_⟩:=nd
 obtain ⟨dx,fs,h1,h2⟩:=l.ob
 obtain ⟨bx,hb⟩:=l.book.ob
 have sw:∀ b∈wdsL L,b≠L.ta:=fun b hb z=>l.sep b hb (by rw [z];exact mut_ta)
 have nee:e≠L.ta:=fun z=>ne (by rw [z];exact mut_ta)
 refine ⟨⟨⟨dx,fs,k _ _ p4 h1,h2.of rfl rfl rfl rfl rfl⟩,⟨⟨bx,k _ _ b4 hb⟩,k _ _ c4 l.book.noted,l.book.nd⟩,k _ _ d4 l.hds,l.hdw.keep fun b hb o=>k b o (sw b (wd_h hb)),upd_same,LsAt.snoc (l.tlw.keep fun b hb o=>k b o (sw b (wd_t hb))) (k _ _ nee he),
  k _ _ (Ne.symm e5) l.lns,l.lnw.keep fun b hb o=>k b o (sw b (wd_l hb)),k _ _ (Ne.symm e6) l.rws,l.rww.keep fun b hb o=>k b o fun z=>e7 (by rw [← z];exact hb),l.nd,fun b hb=>?_⟩,k⟩
 have hb':b∈wdsL L∨b=e:=by
  rcases List.mem_append.mp hb with hb | hb
  ·rcases List.mem_append.mp hb with hb | hb
   ·exact .inl (wd_h hb)
   ·rcases List.mem_append.mp hb with hb | hb
    ·exact .inl (wd_t hb)
    ·exact .inr (List.mem_singleton.mp hb)
  ·exact .inl (wd_l hb)
 rcases hb' with hb' | hb'
 ·exact l.sep b hb'
 ·rw [hb'];exact ne
theorem own_tail {e b:Addr} (h:b∈ownL p { L with tA:=L.tA++[e] }):b∈ownL p L∨b=e:=by
 rcases List.mem_append.mp h with h | h
 ·exact .inl (own_mut h)
 ·rcases List.mem_append.mp h with h | h
  ·rcases List.mem_append.mp h with h | h
   ·exact .inl (own_wd (wd_h h))
   ·rcases List.mem_append.mp h with h | h
    ·exact .inl (own_wd (wd_t h))
    ·exact .inr (List.mem_singleton.mp h)
  ·exact .inl (own_wd (wd_l h))
end
structure Env (H0 H:Hp) (p:Addr) (L:LA):Prop where
 same:Same H0 H
 out:∀ b∈ownL p L,H0 b=none
theorem Env.step {H0 H H':Hp} {p:Addr} {L L':LA} (e:Env H0 H p L) (s:LStep p L L' H H'):Env H0 H' p L':=by
 refine ⟨fun b o q=>s.kp b o (fun z=>?_) (e.same b o q),fun b hb=>?_⟩
 ·rw [e.out b (own_mut z)] at q;cases q
 ·rcases s.own b hb with h | h
  ·exact e.out b h
  ·exact e.same.free h
theorem Env.keep {H0 H H':Hp} {p:Addr} {L:LA} (e:Env H0 H p L) (k:∀ b o,H0 b=some o→H b=some o→H' b=some o):Env H0 H' p L:=⟨fun b o q=>k b o q (e.same b o q),e.out⟩
section
variable {H H':Hp} {wa sa:Addr} {wA sA qA:List Addr} {kn:Bk} {p:Addr} {L L':LA}
end
set_option genInjectivity false in
set_option genSizeOf false in
structure Adr where
 C_House:Addr
 C_Book:Addr
 C_Learner:Addr
 C_HouseError:Addr
 C_BadHouse:Addr
 C_BadWord:Addr
 C_SaidOtherwise:Addr
 C_NotAsked:Addr
 C_NotYet:Addr
 C_NotWrong:Addr
 f_check_doors:Addr
 fd_check_doors:FuncData
 f_check_house:Addr
 fd_check_house:FuncData
 f_check_word:Addr
 fd_check_word:FuncData
 f_House_init:Addr
 fd_House_init:FuncData
 f_House_rooms:Addr
 fd_House_rooms:FuncData
 f_House_trail:Addr
 fd_House_trail:FuncData
 f_House_room_of:Addr
 fd_House_room_of:FuncData
 f_House_says:Addr
 fd_House_says:FuncData
 f_Book_init:Addr
 fd_Book_init:FuncData
 f_Book_said:Addr
 fd_Book_said:FuncData
 f_Book_check_note:Addr
 fd_Book_check_note:FuncData
 f_Book_note:Addr
 fd_Book_note:FuncData
 f_Book_all_said:Addr
 fd_Book_all_said:FuncData
 f_Learner_add_head:Addr
 fd_Learner_add_head:FuncData
 f_Learner_init:Addr
 fd_Learner_init:FuncData
 f_Learner_gap:Addr
 fd_Learner_gap:FuncData
 f_Learner_question:Addr
 fd_Learner_question:FuncData
 f_Learner_heads_by_row:Addr
 fd_Learner_heads_by_row:FuncData
 f_Learner_unlike_edge:Addr
 fd_Learner_unlike_edge:FuncData
 f_Learner_add_unlike_edges:Addr
 fd_Learner_add_unlike_edges:FuncData
 f_Learner_answer:Addr
 fd_Learner_answer:FuncData
 f_Learner_guess:Addr
 fd_Learner_guess:FuncData
 f_Learner_add_tails:Addr
 fd_Learner_add_tails:FuncData
 f_Learner_wrong:Addr
 fd_Learner_wrong:FuncData
 f_l_cell_at:Addr
 fd_l_cell_at:FuncData
 f_l_draw:Addr
 fd_l_draw:FuncData
 f_l_ways_by:Addr
 fd_l_ways_by:FuncData
 f_l_lamps_by:Addr
 fd_l_lamps_by:FuncData
 f_l_word_by:Addr
 fd_l_word_by:FuncData
 f_l_walk:Addr
 fd_l_walk:FuncData
 f_l_part:Addr
 fd_l_part:FuncData
 f_l_stands_under:Addr
 fd_l_stands_under:FuncData
 f_l_do:Addr
 fd_l_do:FuncData
 f_l_name:Addr
 fd_l_name:FuncData
 f_l_seen:Addr
 fd_l_seen:FuncData
 f_l_refusals_hold:Addr
 fd_l_refusals_hold:FuncData
 f_l_rows:Addr
 fd_l_rows:FuncData
 f_law:Addr
 fd_law:FuncData
structure Txt (K:PySem.W.Frag) (mg:Str→Option Value) (t:Adr):Prop where
 m_len:mg "len"=none
 m_range:mg "range"=none
 m_isinstance:mg "isinstance"=none
 m_list:mg "list"=none
 m_enumerate:mg "enumerate"=none
 m_tuple:mg "tuple"=none
 m_ValueError:mg "ValueError"=none
 m_zip:mg "zip"=none
 mg_MOST_DOORS:∃ tk,mg "MOST_DOORS"=some (.int 6 tk)
 mg_MOST_ROOMS:∃ tk,mg "MOST_ROOMS"=some (.int 400 tk)
 mg_House:mg "House"=some (.ref t.C_House)
 cl_House:Cls K t.C_House
 tc_House:PySem.W.findIn K (.ref t.C_House) "__class__"=some (some (.builtin "object.__class__"))
 tm_House:PySem.W.mroIn K t.C_House (.type "object")=some true
 na_House_doors:NoAttr K t.C_House "doors"
 na_House_ways:NoAttr K t.C_House "ways"
 na_House_lamps:NoAttr K t.C_House "lamps"
 mg_Book:mg "Book"=some (.ref t.C_Book)
 cl_Book:Cls K t.C_Book
 tc_Book:PySem.W.findIn K (.ref t.C_Book) "__class__"=some (some (.builtin "object.__class__"))
 tm_Book:PySem.W.mroIn K t.C_Book (.type "object")=some true
 na_Book_doors:NoAttr K t.C_Book "doors"
 na_Book_noted:NoAttr K t.C_Book "noted"
 mg_Learner:mg "Learner"=some (.ref t.C_Learner)
 cl_Learner:Cls K t.C_Learner
 tc_Learner:PySem.W.findIn K (.ref t.C_Learner) "__class__"=some (some (.builtin "object.__class__"))
 tm_Learner:PySem.W.mroIn K t.C_Learner (.type "object")=some true
 na_Learner_book:NoAttr K t.C_Learner "book"
 na_Learner_doors:NoAttr K t.C_Learner "doors"
 na_Learner_heads:NoAttr K t.C_Learner "heads"
 na_Learner_tails:NoAttr K t.C_Learner "tails"
 na_Learner_lines:NoAttr K t.C_Learner "lines"
 na_Learner_rows:NoAttr K t.C_Learner "rows"
 na_Learner_filled:NoAttr K t.C_Learner "filled"
 mg_HouseError:mg "HouseError"=some (.ref t.C_HouseError)
 ex_HouseError:ExcK K "HouseError" t.C_HouseError
 cl_HouseError:PySem.W.isClsIn K t.C_HouseError=true
 ty_HouseError:PySem.W.typeIn K (.ref t.C_HouseError)=some (.type "type")
 mv_HouseError:PySem.W.mroIn K t.C_HouseError (.type "ValueError")=some true
 ms_HouseError:PySem.W.mroIn K t.C_HouseError (.ref t.C_HouseError)=some true
 mg_BadHouse:mg "BadHouse"=some (.ref t.C_BadHouse)
 ex_BadHouse:ExcK K "BadHouse" t.C_BadHouse
 cl_BadHouse:PySem.W.isClsIn K t.C_BadHouse=true
 ty_BadHouse:PySem.W.typeIn K (.ref t.C_BadHouse)=some (.type "type")
 mv_BadHouse:PySem.W.mroIn K t.C_BadHouse (.type "ValueError")=some true
 ms_BadHouse:PySem.W.mroIn K t.C_BadHouse (.ref t.C_BadHouse)=some true
 mg_BadWord:mg "BadWord"=some (.ref t.C_BadWord)
 ex_BadWord:ExcK K "BadWord" t.C_BadWord
 cl_BadWord:PySem.W.isClsIn K t.C_BadWord=true
 ty_BadWord:PySem.W.typeIn K (.ref t.C_BadWord)=some (.type "type")
 mv_BadWord:PySem.W.mroIn K t.C_BadWord (.type "ValueError")=some true
 ms_BadWord:PySem.W.mroIn K t.C_BadWord (.ref t.C_BadWord)=some true
 mg_SaidOtherwise:mg "SaidOtherwise"=some (.ref t.C_SaidOtherwise)
 ex_SaidOtherwise:ExcK K "SaidOtherwise" t.C_SaidOtherwise
 cl_SaidOtherwise:PySem.W.isClsIn K t.C_SaidOtherwise=true
 ty_SaidOtherwise:PySem.W.typeIn K (.ref t.C_SaidOtherwise)=some (.type "type")
 mv_SaidOtherwise:PySem.W.mroIn K t.C_SaidOtherwise (.type "ValueError")=some true
 ms_SaidOtherwise:PySem.W.mroIn K t.C_SaidOtherwise (.ref t.C_SaidOtherwise)=some true
 mg_NotAsked:mg "NotAsked"=some (.ref t.C_NotAsked)
 ex_NotAsked:ExcK K "NotAsked" t.C_NotAsked
 cl_NotAsked:PySem.W.isClsIn K t.C_NotAsked=true
 ty_NotAsked:PySem.W.typeIn K (.ref t.C_NotAsked)=some (.type "type")
 mv_NotAsked:PySem.W.mroIn K t.C_NotAsked (.type "ValueError")=some true
 ms_NotAsked:PySem.W.mroIn K t.C_NotAsked (.ref t.C_NotAsked)=some true
 mg_NotYet:mg "NotYet"=some (.ref t.C_NotYet)
 ex_NotYet:ExcK K "NotYet" t.C_NotYet
 cl_NotYet:PySem.W.isClsIn K t.C_NotYet=true
 ty_NotYet:PySem.W.typeIn K (.ref t.C_NotYet)=some (.type "type")
 mv_NotYet:PySem.W.mroIn K t.C_NotYet (.type "ValueError")=some true
 ms_NotYet:PySem.W.mroIn K t.C_NotYet (.ref t.C_NotYet)=some true
 mg_NotWrong:mg "NotWrong"=some (.ref t.C_NotWrong)
 ex_NotWrong:ExcK K "NotWrong" t.C_NotWrong
 cl_NotWrong:PySem.W.isClsIn K t.C_NotWrong=true
 ty_NotWrong:PySem.W.typeIn K (.ref t.C_NotWrong)=some (.type "type")
 mv_NotWrong:PySem.W.mroIn K t.C_NotWrong (.type "ValueError")=some true
 ms_NotWrong:PySem.W.mroIn K t.C_NotWrong (.ref t.C_NotWrong)=some true
 mb_HouseError:PySem.W.mroIn K t.C_HouseError (.type "BaseException")=some true
 mb_BadHouse:PySem.W.mroIn K t.C_BadHouse (.type "BaseException")=some true
 mb_BadWord:PySem.W.mroIn K t.C_BadWord (.type "BaseException")=some true
 mb_SaidOtherwise:PySem.W.mroIn K t.C_SaidOtherwise (.type "BaseException")=some true
 mb_NotAsked:PySem.W.mroIn K t.C_NotAsked (.type "BaseException")=some true
 mb_NotYet:PySem.W.mroIn K t.C_NotYet (.type "BaseException")=some true
 mb_NotWrong:PySem.W.mroIn K t.C_NotWrong (.type "BaseException")=some true
 mr_NotAsked_HouseError:PySem.W.mroIn K t.C_NotAsked (.ref t.C_HouseError)=some true
 mr_HouseError_NotAsked:PySem.W.mroIn K t.C_HouseError (.ref t.C_NotAsked)=some false
 mr_NotAsked_NotYet:PySem.W.mroIn K t.C_NotAsked (.ref t.C_NotYet)=some false
 mr_NotAsked_BadWord:PySem.W.mroIn K t.C_NotAsked (.ref t.C_BadWord)=some false
 mr_NotAsked_SaidOtherwise:PySem.W.mroIn K t.C_NotAsked (.ref t.C_SaidOtherwise)=some false
 mr_NotAsked_NotWrong:PySem.W.mroIn K t.C_NotAsked (.ref t.C_NotWrong)=some false
 mr_NotAsked_BadHouse:PySem.W.mroIn K t.C_NotAsked (.ref t.C_BadHouse)=some false
 mr_NotYet_HouseError:PySem.W.mroIn K t.C_NotYet (.ref t.C_HouseError)=some true
 mr_HouseError_NotYet:PySem.W.mroIn K t.C_HouseError (.ref t.C_NotYet)=some false
 mr_NotYet_NotAsked:PySem.W.mroIn K t.C_NotYet (.ref t.C_NotAsked)=some false
 mr_NotYet_BadWord:PySem.W.mroIn K t.C_NotYet (.ref t.C_BadWord)=some false
 mr_NotYet_SaidOtherwise:PySem.W.mroIn K t.C_NotYet (.ref t.C_SaidOtherwise)=some false
 mr_NotYet_NotWrong:PySem.W.mroIn K t.C_NotYet (.ref t.C_NotWrong)=some false
 mr_NotYet_BadHouse:PySem.W.mroIn K t.C_NotYet (.ref t.C_BadHouse)=some false
 mr_BadWord_HouseError:PySem.W.mroIn K t.C_BadWord (.ref t.C_HouseError)=some true
 mr_HouseError_BadWord:PySem.W.mroIn K t.C_HouseError (.ref t.C_BadWord)=some false
 mr_BadWord_NotAsked:PySem.W.mroIn K t.C_BadWord (.ref t.C_NotAsked)=some false
 mr_BadWord_NotYet:PySem.W.mroIn K t.C_BadWord (.ref t.C_NotYet)=some false
 mr_BadWord_SaidOtherwise:PySem.W.mroIn K t.C_BadWord (.ref t.C_SaidOtherwise)=some false
 mr_BadWord_NotWrong:PySem.W.mroIn K t.C_BadWord (.ref t.C_NotWrong)=some false
 mr_BadWord_BadHouse:PySem.W.mroIn K t.C_BadWord (.ref t.C_BadHouse)=some false
 mr_SaidOtherwise_HouseError:PySem.W.mroIn K t.C_SaidOtherwise (.ref t.C_HouseError)=some true
 mr_HouseError_SaidOtherwise:PySem.W.mroIn K t.C_HouseError (.ref t.C_SaidOtherwise)=some false
 mr_SaidOtherwise_NotAsked:PySem.W.mroIn K t.C_SaidOtherwise (.ref t.C_NotAsked)=some false
 mr_SaidOtherwise_NotYet:PySem.W.mroIn K t.C_SaidOtherwise (.ref t.C_NotYet)=some false
 mr_SaidOtherwise_BadWord:PySem.W.mroIn K t.C_SaidOtherwise (.ref t.C_BadWord)=some false
 mr_SaidOtherwise_NotWrong:PySem.W.mroIn K t.C_SaidOtherwise (.ref t.C_NotWrong)=some false
 mr_SaidOtherwise_BadHouse:PySem.W.mroIn K t.C_SaidOtherwise (.ref t.C_BadHouse)=some false
 mr_NotWrong_HouseError:PySem.W.mroIn K t.C_NotWrong (.ref t.C_HouseError)=some true
 mr_HouseError_NotWrong:PySem.W.mroIn K t.C_HouseError (.ref t.C_NotWrong)=some false
 mr_NotWrong_NotAsked:PySem.W.mroIn K t.C_NotWrong (.ref t.C_NotAsked)=some false
 mr_NotWrong_NotYet:PySem.W.mroIn K t.C_NotWrong (.ref t.C_NotYet)=some false
 mr_NotWrong_BadWord:PySem.W.mroIn K t.C_NotWrong (.ref t.C_BadWord)=some false
 mr_NotWrong_SaidOtherwise:PySem.W.mroIn K t.C_NotWrong (.ref t.C_SaidOtherwise)=some false
 mr_NotWrong_BadHouse:PySem.W.mroIn K t.C_NotWrong (.ref t.C_BadHouse)=some false
 mr_BadHouse_HouseError:PySem.W.mroIn K t.C_BadHouse (.ref t.C_HouseError)=some true
 mr_HouseError_BadHouse:PySem.W.mroIn K t.C_HouseError (.ref t.C_BadHouse)=some false
 mr_BadHouse_NotAsked:PySem.W.mroIn K t.C_BadHouse (.ref t.C_NotAsked)=some false
 mr_BadHouse_NotYet:PySem.W.mroIn K t.C_BadHouse (.ref t.C_NotYet)=some false
 mr_BadHouse_BadWord:PySem.W.mroIn K t.C_BadHouse (.ref t.C_BadWord)=some false
 mr_BadHouse_SaidOtherwise:PySem.W.mroIn K t.C_BadHouse (.ref t.C_SaidOtherwise)=some false
 mr_BadHouse_NotWrong:PySem.W.mroIn K t.C_BadHouse (.ref t.C_NotWrong)=some false
 tg:PySem.W.specialIn K (.builtin "object.__class__") "__get__"=some (some (.builtin "getset_descriptor.__get__"))
 tt:PySem.W.takesIn K (.builtin "object.__class__")=some true
 mg_check_doors:mg "check_doors"=some (.ref t.f_check_doors)
 F_check_doors:Fun K "check_doors" "check_doors" s_check_doors t.f_check_doors t.fd_check_doors
 mg_check_house:mg "check_house"=some (.ref t.f_check_house)
 F_check_house:Fun K "check_house" "check_house" s_check_house t.f_check_house t.fd_check_house
 mg_check_word:mg "check_word"=some (.ref t.f_check_word)
 F_check_word:Fun K "check_word" "check_word" s_check_word t.f_check_word t.fd_check_word
 F_House_init:Fun K "__init__" "House.__init__" s_House_init t.f_House_init t.fd_House_init
 mk_House:Mk K t.C_House t.f_House_init
 F_House_rooms:Fun K "rooms" "House.rooms" s_House_rooms t.f_House_rooms t.fd_House_rooms
 me_House_rooms:Meth K t.C_House "rooms" t.f_House_rooms
 F_House_trail:Fun K "trail" "House.trail" s_House_trail t.f_House_trail t.fd_House_trail
 me_House_trail:Meth K t.C_House "trail" t.f_House_trail
 F_House_room_of:Fun K "room_of" "House.room_of" s_House_room_of t.f_House_room_of t.fd_House_room_of
 me_House_room_of:Meth K t.C_House "room_of" t.f_House_room_of
 F_House_says:Fun K "says" "House.says" s_House_says t.f_House_says t.fd_House_says
 me_House_says:Meth K t.C_House "says" t.f_House_says
 F_Book_init:Fun K "__init__" "Book.__init__" s_Book_init t.f_Book_init t.fd_Book_init
 mk_Book:Mk K t.C_Book t.f_Book_init
 F_Book_said:Fun K "said" "Book.said" s_Book_said t.f_Book_said t.fd_Book_said
 me_Book_said:Meth K t.C_Book "said" t.f_Book_said
 F_Book_check_note:Fun K "check_note" "Book.check_note" s_Book_check_note t.f_Book_check_note t.fd_Book_check_note
 me_Book_check_note:Meth K t.C_Book "check_note" t.f_Book_check_note
 F_Book_note:Fun K "note" "Book.note" s_Book_note t.f_Book_note t.fd_Book_note
 me_Book_note:Meth K t.C_Book "note" t.f_Book_note
 F_Book_all_said:Fun K "all_said" "Book.all_said" s_Book_all_said t.f_Book_all_said t.fd_Book_all_said
 me_Book_all_said:Meth K t.C_Book "all_said" t.f_Book_all_said
 F_Learner_add_head:Fun K "add_head" "Learner.add_head" s_Learner_add_head t.f_Learner_add_head t.fd_Learner_add_head
 me_Learner_add_head:Meth K t.C_Learner "add_head" t.f_Learner_add_head
 F_Learner_init:Fun K "__init__" "Learner.__init__" s_Learner_init t.f_Learner_init t.fd_Learner_init
 mk_Learner:Mk K t.C_Learner t.f_Learner_init
 F_Learner_gap:Fun K "gap" "Learner.gap" s_Learner_gap t.f_Learner_gap t.fd_Learner_gap
 me_Learner_gap:Meth K t.C_Learner "gap" t.f_Learner_gap
 F_Learner_question:Fun K "question" "Learner.question" s_Learner_question t.f_Learner_question t.fd_Learner_question
 me_Learner_question:Meth K t.C_Learner "question" t.f_Learner_question
 F_Learner_heads_by_row:Fun K "heads_by_row" "Learner.heads_by_row" s_Learner_heads_by_row t.f_Learner_heads_by_row t.fd_Learner_heads_by_row
 me_Learner_heads_by_row:Meth K t.C_Learner "heads_by_row" t.f_Learner_heads_by_row
 F_Learner_unlike_edge:Fun K "unlike_edge" "Learner.unlike_edge" s_Learner_unlike_edge t.f_Learner_unlike_edge t.fd_Learner_unlike_edge
 me_Learner_unlike_edge:Meth K t.C_Learner "unlike_edge" t.f_Learner_unlike_edge
 F_Learner_add_unlike_edges:Fun K "add_unlike_edges" "Learner.add_unlike_edges" s_Learner_add_unlike_edges t.f_Learner_add_unlike_edges t.fd_Learner_add_unlike_edges
 me_Learner_add_unlike_edges:Meth K t.C_Learner "add_unlike_edges" t.f_Learner_add_unlike_edges
 F_Learner_answer:Fun K "answer" "Learner.answer" s_Learner_answer t.f_Learner_answer t.fd_Learner_answer
 me_Learner_answer:Meth K t.C_Learner "answer" t.f_Learner_answer
 F_Learner_guess:Fun K "guess" "Learner.guess" s_Learner_guess t.f_Learner_guess t.fd_Learner_guess
 me_Learner_guess:Meth K t.C_Learner "guess" t.f_Learner_guess
 F_Learner_add_tails:Fun K "add_tails" "Learner.add_tails" s_Learner_add_tails t.f_Learner_add_tails t.fd_Learner_add_tails
 me_Learner_add_tails:Meth K t.C_Learner "add_tails" t.f_Learner_add_tails
 F_Learner_wrong:Fun K "wrong" "Learner.wrong" s_Learner_wrong t.f_Learner_wrong t.fd_Learner_wrong
 me_Learner_wrong:Meth K t.C_Learner "wrong" t.f_Learner_wrong
 mg_l_cell_at:mg "_law_cell_at"=some (.ref t.f_l_cell_at)
 F_l_cell_at:Fun K "_law_cell_at" "_law_cell_at" s_l_cell_at t.f_l_cell_at t.fd_l_cell_at
 mg_l_draw:mg "_law_draw"=some (.ref t.f_l_draw)
 F_l_draw:Fun K "_law_draw" "_law_draw" s_l_draw t.f_l_draw t.fd_l_draw
 mg_l_ways_by:mg "_law_ways_by"=some (.ref t.f_l_ways_by)
 F_l_ways_by:Fun K "_law_ways_by" "_law_ways_by" s_l_ways_by t.f_l_ways_by t.fd_l_ways_by
 mg_l_lamps_by:mg "_law_lamps_by"=some (.ref t.f_l_lamps_by)
 F_l_lamps_by:Fun K "_law_lamps_by" "_law_lamps_by" s_l_lamps_by t.f_l_lamps_by t.fd_l_lamps_by
 mg_l_word_by:mg "_law_word_by"=some (.ref t.f_l_word_by)
 F_l_word_by:Fun K "_law_word_by" "_law_word_by" s_l_word_by t.f_l_word_by t.fd_l_word_by
 mg_l_walk:mg "_law_walk"=some (.ref t.f_l_walk)
 F_l_walk:Fun K "_law_walk" "_law_walk" s_l_walk t.f_l_walk t.fd_l_walk
 mg_l_part:mg "_law_part"=some (.ref t.f_l_part)
 F_l_part:Fun K "_law_part" "_law_part" s_l_part t.f_l_part t.fd_l_part
 mg_l_stands_under:mg "_law_stands_under"=some (.ref t.f_l_stands_under)
 F_l_stands_under:Fun K "_law_stands_under" "_law_stands_under" s_l_stands_under t.f_l_stands_under t.fd_l_stands_under
 mg_l_do:mg "_law_do"=some (.ref t.f_l_do)
 F_l_do:Fun K "_law_do" "_law_do" s_l_do t.f_l_do t.fd_l_do
 mg_l_name:mg "_law_name"=some (.ref t.f_l_name)
 F_l_name:Fun K "_law_name" "_law_name" s_l_name t.f_l_name t.fd_l_name
 mg_l_seen:mg "_law_seen"=some (.ref t.f_l_seen)
 F_l_seen:Fun K "_law_seen" "_law_seen" s_l_seen t.f_l_seen t.fd_l_seen
 mg_l_refusals_hold:mg "_law_refusals_hold"=some (.ref t.f_l_refusals_hold)
 F_l_refusals_hold:Fun K "_law_refusals_hold" "_law_refusals_hold" s_l_refusals_hold t.f_l_refusals_hold t.fd_l_refusals_hold
 mg_l_rows:mg "_law_rows"=some (.ref t.f_l_rows)
 F_l_rows:Fun K "_law_rows" "_law_rows" s_l_rows t.f_l_rows t.fd_l_rows
 mg_law:mg "law"=some (.ref t.f_law)
 F_law:Fun K "law" "law" s_law t.f_law t.fd_law
section
variable {P:Program} {w:World} {K:PySem.W.Frag} {mg:Str→Option Value} {base:Heap} {t:Adr}
theorem sc_check_doors:FnScope ["doors"] ["doors"] (defScope s_check_doors):=⟨rfl,rfl,rfl,by decide +kernel,rfl,by decide +kernel,by decide +kernel⟩
theorem b_check_doors (T:Txt K mg t):Binds K t.fd_check_doors ["doors"] []:=T.F_check_doors.binds fun _ _ _ _ _ _ us hl=>by obtain ⟨_,rfl⟩:=len_1 hl;rfl
def sp_check_doors (C:Addr):Sp:=fun vs H Q E=>∃ d:Int,vs=[.int d]∧-1000000≤d∧d≤1000000∧((1≤d∧d≤6)→Q .non H)∧(¬ (1≤d∧d≤6)→E (.ref C) none H)
theorem ok_check_doors (T:Txt K mg t):FnOk P w K mg base (CXr P w) 1 t.f_check_doors t.fd_check_doors ["doors"] (sp_check_doors t.C_BadHouse):=by
 refine T.F_check_doors.okX sc_check_doors (fun vs H Q E h=>?_) (fun cdv A outer s H vs Q E hr h=>?_)
 ·obtain ⟨d,rfl,_⟩:=h
  rfl
 ·obtain ⟨d,rfl,s0,s1,q1,q2⟩:=h
  refine ⟨_,pss_one (ps_if (pt_not (pt_chain op_le op_le (pe_int) (pv 0) (pe_glob (v:=.int 6) rfl T.mg_MOST_DOORS.choose_spec ⟨_,rfl⟩)))
 (pss_one (ps_raise xm_def rfl rfl T.mg_BadHouse T.ex_BadHouse.toExcCls (pa_cons (pe_joined (pj_str (pj_int (pv 0) (pj_nil)))) (pa_nil))))
 (pss_nil)),?_⟩
  walk_at "w";refine r_ite (fun hd1=>?_) (fun hd1=>?_)
  rotate_left
  ·walk_at "w";refine r_iteP rfl ?_
   walk_at "w";refine ⟨d,rfl,small_log s0 s1,?_⟩
   walk_at "w";exact fun x=>⟨show 1≤sizeLine by decide,q2 fun z=>by have:=z.1;simp at hd1;omega⟩
  have hd1:=of_decide_eq_true hd1
  walk_at "w";refine r_ite (fun hd6=>?_) (fun hd6=>?_)
  ·walk_at "w";refine ⟨d,rfl,small_log s0 s1,?_⟩
   walk_at "w";exact fun x=>⟨show 1≤sizeLine by decide,q2 fun z=>by have:=z.2;simp at hd6;omega⟩
  have hd6:d≤6:=by simpa using hd6
  walk_at "w";exact q1 ⟨hd1,hd6⟩
theorem sc_check_house:FnScope ["doors","ways","lamps","rooms","room","row","way"] ["doors","ways","lamps"] (defScope s_check_house):=⟨rfl,rfl,rfl,by decide +kernel,rfl,by decide +kernel,by decide +kernel⟩
theorem b_check_house (T:Txt K mg t):Binds K t.fd_check_house ["doors","ways","lamps"] []:=T.F_check_house.binds fun _ _ _ _ _ _ us hl=>by obtain ⟨_,_,_,rfl⟩:=len_3 hl;rfl
def sp_check_house (K:PySem.W.Frag):Sp:=fun vs H Q _=>∃ (d:Int) (a:Addr) (rs:List Addr) (rss:List (List Int)) (l:Addr) (ls:List Bool),vs=[.int d,.ref a,.ref l]∧Mat H a rs rss∧SqL K H l (ls.map V.bl)∧Valid d rss ls ∧
 ∀ H',Same H H'→Q .non H'
theorem ok_check_house (T:Txt K mg t):FnOk P w K mg base CX0 2 t.f_check_house t.fd_check_house ["doors","ways","lamps"] (sp_check_house K):=by
 refine T.F_check_house.ok sc_check_house (fun vs H Q E h=>?_) (fun cdv A outer s H vs Q E hr h=>?_)
 ·obtain ⟨d,a,rs,rss,l,ls,rfl,_⟩:=h
  rfl
 ·obtain ⟨d,a,rs,rss,l,ls,rfl,M,hL,Vd,q⟩:=h
  have hd1:=Vd.d1
  have hd6:=Vd.d6
  have hr1:=Vd.r1
  have hr4:=Vd.r400
  have hll:=Vd.ll
  have hlen:(rs.map V.ref).length=rss.length:=by rw [List.length_map,M.len]
  refine ⟨_,pss_cons (ps_expr (pe_call (ok_check_doors T) (hr.mono (by decide)) rfl T.mg_check_doors T.F_check_doors.kp (b_check_doors T) .nil pass0X (pa_cons (pv 0) (pa_nil))))
 (pss_cons (ps_set (i:=3) sc_check_house.nd rfl (Or.inl rfl) (pe_callB (call_len_seqK K) rfl T.m_len PySem.boot_len (pa_cons (pv 1) (pa_nil))))
 (pss_cons (ps_if (pt_not (pt_chain op_le op_le (pe_int) (pv 3) (pe_glob (v:=.int 400) rfl T.mg_MOST_ROOMS.choose_spec ⟨_,rfl⟩)))
 (pss_one (ps_never))
 (pss_nil))
 (pss_cons (ps_if (pt_cmpR op_ne (pe_callB (call_len_seqK K) rfl T.m_len PySem.boot_len (pa_cons (pv 2) (pa_nil))) (pv 3) (nomark _))
 (pss_one (ps_never))
 (pss_nil))
 (pss_one (ps_for PassesOwn.never rfl (pi_enumK K rfl T.m_enumerate (pa_cons (pv 1) (pa_nil))) (pg_tupK K (n:=2) rfl (pgs_cons (pg_name (i:=4) sc_check_house.nd rfl (Or.inl rfl)) (pgs_cons (pg_name (i:=5) sc_check_house.nd rfl (Or.inl rfl)) (pgs_nil))))
 (pss_cons (ps_if (pt_cmpR op_ne (pe_callB (call_len_seqK K) rfl T.m_len PySem.boot_len (pa_cons (pv 5) (pa_nil))) (pv 0) (nomark _))
 (pss_one (ps_never))
 (pss_nil))
 (pss_one (ps_for PassesOwn.never rfl (pi_listK K (pv 5)) (pg_name (i:=6) sc_check_house.nd rfl (Or.inl rfl))
 (pss_one (ps_if (pt_not (pt_chain op_le op_lt (pe_int) (pv 6) (pv 3)))
 (pss_one (ps_never))
 (pss_nil))))))))))),?_⟩
  walk_at "w";refine ⟨d,rfl,by omega,by omega,fun _=>?_,fun z=>absurd ⟨hd1,hd6⟩ z⟩
  walk_at "w";refine ⟨a,_,rfl,.inl (SqL.of M.top),?_⟩
  rw [hlen]
  walk_at "w";refine r_iteP (decide_eq_true (by omega)) ?_
  walk_at "w";refine r_iteN (by simp;omega) ?_
  walk_at "w";refine ⟨l,_,rfl,.inl hL,?_⟩
  walk_at "w";refine r_ne rfl ?_
  walk_at "w";refine r_iteN (by simp [hll]) ?_
  walk_at "w";refine ⟨a,rfl,⟨_,SqL.of M.top⟩,?_⟩
  refine for_enum (xs:=rs.map V.ref) (fun i σ H'=>Same H H'∧∃ k1 k2 k3,σ=[some (.int d),some (.ref a),some (.ref l),some (.int (rss.length:Int)),k1,k2,k3]) ⟨Same.refl H,none,none,none,rfl⟩ (fun i σ H' _ p=>sqL_same p.1 (SqL.of M.top)) (fun i x σ H' tp hx p ht=>?_) (fun σ H' p=>?_)
  ·obtain ⟨hs,k1,k2,k3,rfl⟩:=p
   obtain ⟨r,rfl,hr'⟩:=ref_map_inv hx
   obtain ⟨hi,_⟩:=List.getElem?_eq_some_iff.mp hr'
   have hi':i < rss.length:=by rw [← M.len];exact hi
   have hrow:=M.row i r rss[i] hr' (List.getElem?_eq_getElem hi')
   have hs':Same H (upd H' tp (.tup [.int (i:Int),.ref r])):=hs.trans (Same.upd_new ht)
   obtain ⟨hw1,hw2⟩:=Vd.row rss[i] (List.getElem_mem hi')
   refine ⟨tp,_,rfl,SqT.of upd_same,rfl,_,_,rfl,?_⟩
   walk_at "w";refine ⟨_,_,rfl,?_⟩
   walk_at "w";refine ⟨rfl,?_⟩
   walk_at "w";refine ⟨r,_,rfl,.inl (SqL.of (hs' _ _ hrow)),?_⟩
   walk_at "w";refine r_ne rfl ?_
   walk_at "w";refine r_iteN (by simp [hw1]) ?_
   walk_at "w";refine ⟨r,rfl,⟨_,SqL.of (hs' _ _ hrow)⟩,?_⟩
   refine for_list (xs:=rss[i].map V.int) (fun j σ H2=>H2=upd H' tp (.tup [.int (i:Int),.ref r])∧∃ k3,σ=[some (.int d),some (.ref a),some (.ref l),some (.int (rss.length:Int)),some (.int (i:Int)),some (.ref r),k3]) ⟨rfl,_,rfl⟩ (fun j σ H2 _ p=>by rw [p.1];exact SqL.of (hs' _ _ hrow)) (fun j x σ H2 hx p=>?_) (fun σ H2 p=>?_)
   ·obtain ⟨rfl,k3,rfl⟩:=p
    have hx0:=int_map_inv hx
    clear hx
    obtain ⟨x,rfl,hx⟩:=hx0
    obtain ⟨x0,x1⟩:=hw2 x (List.mem_of_getElem? hx)
    walk_at "w";refine r_iteP (decide_eq_true x0) ?_
    walk_at "w";refine r_iteN (by simp [x1]) ?_
    walk_at "w";exact ⟨rfl,_,rfl⟩
   ·obtain ⟨rfl,k3,rfl⟩:=p
    exact ⟨hs',_,_,_,rfl⟩
  ·obtain ⟨hs,k1,k2,k3,rfl⟩:=p
   exact q H' hs
theorem sc_check_word:FnScope ["doors","word","door"] ["doors","word"] (defScope s_check_word):=⟨rfl,rfl,rfl,by decide +kernel,rfl,by decide +kernel,by decide +kernel⟩
theorem b_check_word (T:Txt K mg t):Binds K t.fd_check_word ["doors","word"] []:=T.F_check_word.binds fun _ _ _ _ _ _ us hl=>by obtain ⟨_,_,rfl⟩:=len_2 hl;rfl
def sp_check_word (K:PySem.W.Frag) (CB:Addr):Sp:=fun vs H Q E=>∃ (d:Int) (b:Addr) (ws:List Int),vs=[.int d,.ref b]∧SqL K H b (ws.map V.int)∧SmallW ws∧(WordOk d ws→Q .non H)∧(¬ WordOk d ws→E (.ref CB) none H)
theorem ok_check_word (T:Txt K mg t):FnOk P w K mg base (CXr P w) 1 t.f_check_word t.fd_check_word ["doors","word"] (sp_check_word K t.C_BadWord):=by
 refine T.F_check_word.okX sc_check_word (fun vs H Q E h=>?_) (fun cdv A outer s H vs Q E hr h=>?_)
 ·obtain ⟨d,b,ws,rfl,_⟩:=h
  rfl
 ·obtain ⟨d,b,ws,rfl,hS,sm,q,qe⟩:=h
  have he:¬ WordOk d ws→∀ x:Str,([V.str x]:List V).length≤sizeLine∧E (.ref t.C_BadWord) none H:=fun nv x=>⟨show 1≤sizeLine by decide,qe nv⟩
  refine ⟨_,pss_one (ps_for xp_def.own rfl (pi_listK K (pv 1)) (pg_name (i:=2) sc_check_word.nd rfl (Or.inl rfl))
 (pss_one (ps_if (pt_not (pt_chain op_le op_lt (pe_int) (pv 2) (pv 0)))
 (pss_one (ps_raise xm_def rfl rfl T.mg_BadWord T.ex_BadWord.toExcCls (pa_cons (pe_joined (pj_int (pv 2) (pj_str (pj_nil)))) (pa_nil))))
 (pss_nil)))),?_⟩
  walk_at "w";refine ⟨b,rfl,⟨_,hS⟩,?_⟩
  refine for_list (xs:=ws.map V.int) (fun i σ H'=>H'=H∧(∀ j,j < i→∀ x,ws[j]?=some x→0≤x∧x < d)∧∃ kv,σ=[some (.int d),some (.ref b),kv]) ⟨rfl,fun j hj=>absurd hj (Nat.not_lt_zero j),none,rfl⟩ (fun i σ H' _ p=>by rw [p.1];exact hS) (fun i x σ H' hx p=>?_) (fun σ H' p=>?_)
  ·obtain ⟨rfl,done,kv,rfl⟩:=p
   have hx0:=int_map_inv hx
   clear hx
   obtain ⟨x,rfl,hx⟩:=hx0
   obtain ⟨s0,s1⟩:=sm x (List.mem_of_getElem? hx)
   have nv:¬ (0≤x∧x < d)→¬ WordOk d ws:=fun nx V=>nx (V x (List.mem_of_getElem? hx))
   walk_at "w";refine r_ite (fun x0=>?_) (fun x0=>?_)
   rotate_left
   ·walk_at "w";refine r_iteP rfl ?_
    walk_at "w";refine ⟨_,rfl,small_log s0 s1,?_⟩
    walk_at "w";exact he (nv fun z=>by have:=z.1;simp at x0;omega)
   have x0:=of_decide_eq_true x0
   walk_at "w";refine r_ite (fun x1=>?_) (fun x1=>?_)
   ·walk_at "w";refine ⟨_,rfl,small_log s0 s1,?_⟩
    walk_at "w";exact he (nv fun z=>by have:=z.2;simp at x1;omega)
   have x1:x < d:=by simpa using x1
   walk_at "w";refine ⟨rfl,fun j hj y hy=>?_,_,rfl⟩
   rcases Nat.lt_or_ge j i with hji | hji
   ·exact done j hji y hy
   ·have:j=i:=by omega
    subst this
    rw [hx] at hy;cases hy
    exact ⟨x0,x1⟩
  ·obtain ⟨rfl,done,kv,rfl⟩:=p
   refine q fun x hx=>?_
   obtain ⟨j,hj⟩:=List.getElem?_of_mem hx
   refine done j ?_ x hj
   obtain ⟨hj1,_⟩:=List.getElem?_eq_some_iff.mp hj
   rw [List.length_map];exact hj1
theorem sc_House_init:FnScope ["self","doors","ways","lamps"] ["self","doors","ways","lamps"] (defScope s_House_init):=⟨rfl,rfl,rfl,by decide +kernel,rfl,by decide +kernel,by decide +kernel⟩
theorem b_House_init (T:Txt K mg t):Binds K t.fd_House_init ["self","doors","ways","lamps"] []:=T.F_House_init.binds fun _ _ _ _ _ _ us hl=>by obtain ⟨_,_,_,_,rfl⟩:=len_4 hl;rfl
def sp_House_init (K:PySem.W.Frag) (C:Addr):Sp:=fun vs H Q _=>∃ (p dx:Addr) (d:Int) (a:Addr) (rs:List Addr) (rss:List (List Int)) (l:Addr) (ls:List Bool),vs=[.ref p,.int d,.ref a,.ref l]∧H p=some (.ins C dx [])∧Mat H a rs rss∧SqL K H l (ls.map V.bl)∧Valid d rss ls ∧
 ∀ (H':Hp) (aw:Addr) (rs':List Addr) (al:Addr),HouseAt C H' p d aw rs' rss al ls→(∀ b o,H b=some o→b≠p→H' b=some o)→(∀ b∈al :: aw :: rs',H b=none)→Q .non H'
theorem ok_House_init (T:Txt K mg t):FnOk P w K mg base CX0 3 t.f_House_init t.fd_House_init ["self","doors","ways","lamps"] (sp_House_init K t.C_House):=by
 refine T.F_House_init.ok sc_House_init (fun vs H Q E h=>?_) (fun cdv A outer s H vs Q E hr h=>?_)
 ·obtain ⟨p,dx,d,a,rs,rss,l,ls,rfl,_⟩:=h
  rfl
 ·obtain ⟨p,dx,d,a,rs,rss,l,ls,rfl,hp,M,hL,Vd,q⟩:=h
  refine ⟨_,pss_cons (ps_expr (pe_call (ok_check_house T) (hr.mono (by decide)) rfl T.mg_check_house T.F_check_house.kp (b_check_house T) .nil pass0 (pa_cons (pv 1) (pa_cons (pv 2) (pa_cons (pv 3) (pa_nil))))))
 (pss_cons (ps_fldK K (pv 0) (pv 1) rfl)
 (pss_cons (ps_fldK K (pv 0) (pe_comp (N:=["self","doors","ways","lamps"]) (sc0:=(defScope s_House_init)) (N':=["row"]) (caps:=[none]) (by exact ⟨rfl,by decide +kernel,by decide +kernel,by decide +kernel,rfl,rfl,by decide +kernel⟩) rfl (pi_listK K (pv 2)) (fun _ _ _ _ _ _=>pg_name (i:=0) (show List.Nodup (["row"]:List Str) from by decide +kernel) rfl (Or.inl rfl)) (fun _ _ _ _ _ _=>pe_callTy (call_list_ofK K) rfl T.m_list boot_list (pa_cons (pv 0) (pa_nil)))) rfl)
 (pss_one (ps_fldK K (pv 0) (pe_callTy (call_list_ofK K) rfl T.m_list boot_list (pa_cons (pv 3) (pa_nil))) rfl)))),?_⟩
  walk_at "w";refine ⟨d,a,rs,rss,l,ls,rfl,M,hL,Vd,fun H1 hs1=>?_⟩
  walk_at "w";refine ⟨p,_,dx,_,rfl,hs1 _ _ hp,T.cl_House,T.na_House_doors,(by show 0 < 1000;decide),?_⟩
  walk_at "w";have hpa:∀ {b:Addr} {xs:List V},H b=some (.lst xs)→b≠p:=fun e=>ne_of e hp (by intro z;cases z)
  have k1:∀ (b:Addr) (o:HO),H b=some o→b≠p→(upd H1 p (.ins t.C_House dx (putF "doors" (.int d) []))) b=some o:=fun b o e hb=>by rw [upd_ne hb];exact hs1 b o e
  have n1:∀ b,(upd H1 p (.ins t.C_House dx (putF "doors" (.int d) []))) b=none→H b=none:=fun b e=>by
   by_cases hb:b=p
   ·subst hb;rw [upd_same] at e;cases e
   ·rw [upd_ne hb] at e;exact hs1.free e
  generalize hH2:upd H1 p (.ins t.C_House dx (putF "doors" (.int d) []))=H2 at k1 n1 ⊢
  have hp2:H2 p=some (.ins t.C_House dx (putF "doors" (.int d) [])):=by rw [← hH2];exact upd_same
  have M2:Mat H2 a rs rss:=⟨k1 _ _ M.top (hpa M.top),M.len,fun i r row h1 h2=>k1 _ _ (M.row i r row h1 h2) (hpa (M.row i r row h1 h2)),M.nd⟩
  refine ⟨a,rfl,⟨_,SqL.of M2.top⟩,?_⟩
  have h400:=Vd.r400
  refine comp_copy M2 (by omega) fun aw rs' H' hs3 M3 new3=>?_
  have G:Same H2 H':=hs3
  (
   have hp3:H' p=some (.ins t.C_House dx (putF "doors" (.int d) [])):=G _ _ hp2
   walk_at "w";refine ⟨p,_,dx,_,rfl,hp3,T.cl_House,T.na_House_ways,(by show 1 < 1000;decide),?_⟩
   walk_at "w";have hl3:SqL K H l (ls.map V.bl):=hL
   have hlist:SqL K (upd H' p (.ins t.C_House dx (putF "ways" (.ref aw) (putF "doors" (.int d) [])))) l (ls.map V.bl):=by
    rcases hL with (hL | ⟨ob,hL⟩) | hL
    ·exact .inl (.inl (by rw [upd_ne (hpa hL)];exact G _ _ (k1 _ _ hL (hpa hL))))
    ·have hne:l≠p:=ne_of hL hp (by intro z;cases z)
     exact .inl (.inr ⟨ob,by rw [upd_ne hne];exact G _ _ (k1 _ _ hL hne)⟩)
    ·exact .inr hL
   refine ⟨l,_,rfl,.inl hlist,fun al hal=>?_⟩
   walk_at "w";have npa:p≠al:=fun z=>by rw [z,upd_same] at hal;cases hal
   have hal':H' al=none:=by rw [upd_ne (Ne.symm npa)] at hal;exact hal
   refine ⟨p,_,dx,_,rfl,(by rw [upd_ne npa];exact upd_same),T.cl_House,T.na_House_lamps,(by have h1:=length_putF "ways" (.ref aw) (putF "doors" (.int d) []);have h2:=length_putF "doors" (.int d) [];simp only [List.length_nil] at h2;omega),?_⟩
   have hpm:p∉aw :: rs':=fun hm=>by have:=new3 p hm;rw [hp2] at this;cases this
   have ham:al∉aw :: rs':=fun hm=>by obtain ⟨o,e⟩:=M3.mem hm;rw [e] at hal';cases hal'
   refine q _ aw rs' al ⟨⟨dx,upd_same⟩,((M3.upd hpm).upd ham).upd hpm,?_⟩ (fun b o e hb=>?_) (fun b hb=>?_)
   ·rw [upd_ne (Ne.symm npa),upd_same]
   ·have e2:=G _ _ (k1 b o e hb)
    rw [upd_ne hb,upd_ne (ne_of_none e2 hal'),upd_ne hb]
    exact e2
   ·rcases List.mem_cons.mp hb with rfl | hb
    ·exact n1 _ (G.free hal')
    ·exact n1 _ (new3 b hb)
  )
theorem sc_House_trail:FnScope ["self","word","walked","door"] ["self","word"] (defScope s_House_trail):=⟨rfl,rfl,rfl,by decide +kernel,rfl,by decide +kernel,by decide +kernel⟩
theorem b_House_trail (T:Txt K mg t):Binds K t.fd_House_trail ["self","word"] []:=T.F_House_trail.binds fun _ _ _ _ _ _ us hl=>by obtain ⟨_,_,rfl⟩:=len_2 hl;rfl
def sp_House_trail (K:PySem.W.Frag) (C CB:Addr):Sp:=fun vs H Q E=>∃ (p:Addr) (d:Int) (aw:Addr) (rs:List Addr) (rss:List (List Int)) (al:Addr) (ls:List Bool) (b:Addr) (ws:List Int),vs=[.ref p,.ref b]∧HouseAt C H p d aw rs rss al ls∧Ways d rss∧0 < rss.length ∧
 SqL K H b (ws.map V.int)∧SmallW ws∧ws.length≤900∧(WordOk d ws→∀ l,H l=none→Q (.ref l) (upd H l (.lst ((trailI rss ws).map V.int))))∧(¬ WordOk d ws→E (.ref CB) none H)
theorem ok_House_trail (T:Txt K mg t):FnOk P w K mg base (CXr P w) 2 t.f_House_trail t.fd_House_trail ["self","word"] (sp_House_trail K t.C_House t.C_BadWord):=by
 refine T.F_House_trail.okX sc_House_trail (fun vs H Q E h=>?_) (fun cdv A outer s H vs Q E hr h=>?_)
 ·obtain ⟨p,d,aw,rs,rss,al,ls,b,ws,rfl,_⟩:=h
  rfl
 ·obtain ⟨p,d,aw,rs,rss,al,ls,b,ws,rfl,hh,W,hpos,hS,sm,hl,q,qe⟩:=h
  obtain ⟨dx,ho⟩:=hh.ob
  refine ⟨_,pss_cons (ps_expr (pe_call (ok_check_word T) (hr.mono (by decide)) rfl T.mg_check_word T.F_check_word.kp (b_check_word T) .nil xp_def.pass (pa_cons (pe_fldK K (pv 0) rfl) (pa_cons (pv 1) (pa_nil)))))
 (pss_cons (ps_set (i:=2) sc_House_trail.nd rfl (Or.inl rfl) (pe_lst (pa_cons (pe_int) (pa_nil))))
 (pss_cons (ps_for xp_def.own rfl (pi_listK K (pv 1)) (pg_name (i:=3) sc_House_trail.nd rfl (Or.inl rfl))
 (pss_one (ps_expr (pe_bmK K PySem.F.plainAttrs_list PySem.F.slot_list_append PySem.F.type_list_append mt_append (pv 2) (pa_cons (pe_ix (ix_listK K) (pe_ix (ix_listK K) (pe_fldK K (pv 0) rfl) (pe_ix (ix_listK K) (pv 2) (pe_un un_neg (pe_int)) (fun _ _=>rfl)) (fun _ _=>rfl)) (pv 3) (fun _ _=>rfl)) (pa_nil))))))
 (pss_one (ps_ret (pv 2))))),?_⟩
  walk_at "w";refine ⟨_,rfl,p,_,dx,_,_,rfl,ho,T.cl_House,T.na_House_doors,hfs_doors _ _ _,?_⟩
  walk_at "w";refine ⟨d,b,ws,rfl,hS,sm,fun hw=>?_,fun nw=>qe nw⟩
  walk_at "w";refine ⟨by show 1≤sizeLine;decide,fun l hl0=>?_⟩
  walk_at "w";have hne:∀ {x:Addr} {o:HO},H x=some o→x≠l:=fun e=>ne_of_none e hl0
  have hs:∀ o,Same H (upd H l o):=fun o=>Same.upd_new hl0
  refine ⟨b,rfl,⟨_,sqL_same (hs _) hS⟩,?_⟩
  refine for_list (xs:=ws.map V.int) (fun i σ H'=>H'=upd H l (.lst (((List.range (i+1)).map fun j=>walkI rss 0 (ws.take j)).map V.int))∧∃ kv,σ=[some (.ref p),some (.ref b),some (.ref l),kv]) ⟨rfl,none,rfl⟩ (fun i σ H' _ p=>by rw [p.1];exact sqL_same (hs _) hS) (fun i x σ H' hx p=>?_) (fun σ H' p=>?_)
  ·obtain ⟨rfl,kv,rfl⟩:=p
   have hx0:=int_map_inv hx
   clear hx
   obtain ⟨x,rfl,hx⟩:=hx0
   obtain ⟨x0,x1⟩:=hw x (List.mem_of_getElem? hx)
   obtain ⟨b0,b1⟩:=walkI_in W (hw.take i) (Int.le_refl 0) (by omega)
   obtain ⟨row,e1,e2,_,_⟩:=step_in W b0 b1 x0 x1
   obtain ⟨r,e3,e4,e5⟩:=hh.ways.get e1
   have hi:i < ws.length:=(List.getElem?_eq_some_iff.mp hx).1
   have elast:((List.range (i+1)).map fun j=>walkI rss 0 (ws.take j)).map V.int=(((List.range i).map fun j=>walkI rss 0 (ws.take j)).map V.int)++[V.int (walkI rss 0 (ws.take i))]:=by
    rw [map_range_snoc,List.map_append];rfl
   walk_at "w";refine ⟨.inl ⟨rfl,_,SqL.of upd_same⟩,?_⟩
   walk_at "w";refine ⟨_,rfl,p,_,dx,_,_,rfl,hs _ _ _ ho,T.cl_House,T.na_House_ways,hfs_ways _ _ _,?_⟩
   walk_at "w";refine r_ixL (SqL.of upd_same) (by rw [elast];exact atI_last _ _) ?_
   walk_at "w";refine r_ixL (SqL.of (hs _ _ _ hh.ways.top)) (atI_get' b0 e4) ?_
   walk_at "w";refine r_ixL (SqL.of (hs _ _ _ e5)) (atI_get' x0 (int_map_get e2)) ?_
   walk_at "w";refine ⟨l,_,_,rfl,rfl,upd_same,small1000 (by simp;omega),?_⟩
   refine ⟨?_,_,rfl⟩
   rw [upd_upd,map_range_snoc (fun j=>walkI rss 0 (ws.take j)) (i+1),take_snoc hx,walkI_snoc,List.map_append]
   rfl
  ·obtain ⟨rfl,kv,rfl⟩:=p
   walk_at "w";have:=q hw l hl0
   unfold trailI at this
   rw [List.length_map]
   exact this
theorem sc_House_room_of:FnScope ["self","word"] ["self","word"] (defScope s_House_room_of):=⟨rfl,rfl,rfl,by decide +kernel,rfl,by decide +kernel,by decide +kernel⟩
theorem b_House_room_of (T:Txt K mg t):Binds K t.fd_House_room_of ["self","word"] []:=T.F_House_room_of.binds fun _ _ _ _ _ _ us hl=>by obtain ⟨_,_,rfl⟩:=len_2 hl;rfl
def sp_House_room_of (K:PySem.W.Frag) (C CB:Addr):Sp:=fun vs H Q E=>∃ (p:Addr) (d:Int) (aw:Addr) (rs:List Addr) (rss:List (List Int)) (al:Addr) (ls:List Bool) (b:Addr) (ws:List Int),vs=[.ref p,.ref b]∧HouseAt C H p d aw rs rss al ls∧Ways d rss∧0 < rss.length ∧
 SqL K H b (ws.map V.int)∧SmallW ws∧ws.length≤900∧(WordOk d ws→∀ H',Same H H'→Q (.int (walkI rss 0 ws)) H')∧(¬ WordOk d ws→E (.ref CB) none H)
theorem ok_House_room_of (T:Txt K mg t):FnOk P w K mg base (CXr P w) 3 t.f_House_room_of t.fd_House_room_of ["self","word"] (sp_House_room_of K t.C_House t.C_BadWord):=by
 refine T.F_House_room_of.okX sc_House_room_of (fun vs H Q E h=>?_) (fun cdv A outer s H vs Q E hr h=>?_)
 ·obtain ⟨p,d,aw,rs,rss,al,ls,b,ws,rfl,_⟩:=h
  rfl
 ·obtain ⟨p,d,aw,rs,rss,al,ls,b,ws,rfl,hh,W,hpos,hS,sm,hl,q,qe⟩:=h
  obtain ⟨dx,ho⟩:=hh.ob
  refine ⟨_,pss_one (ps_ret (pe_ix (ix_listK K) (pe_meth (pv 0) T.cl_House T.me_House_trail (ok_House_trail T) (hr.mono (by decide)) (b_House_trail T) .nil xp_def.pass (pa_cons (pv 1) (pa_nil))) (pe_un un_neg (pe_int)) (fun _ _=>rfl))),?_⟩
  walk_at "w";refine ⟨p,dx,_,rfl,ho,hfs_no _ _ _ (by decide +kernel) (by decide +kernel) (by decide +kernel),?_⟩
  walk_at "w";refine ⟨p,d,aw,rs,rss,al,ls,b,ws,rfl,hh,W,hpos,hS,sm,hl,fun hw l hl0=>?_,fun nw=>qe nw⟩
  walk_at "w";have elast:(trailI rss ws).map V.int=(((List.range ws.length).map fun j=>walkI rss 0 (ws.take j)).map V.int)++[V.int (walkI rss 0 ws)]:=by
   unfold trailI
   rw [map_range_snoc,List.map_append,List.take_length];rfl
  refine r_ixL (SqL.of upd_same) (by rw [elast];exact atI_last _ _) ?_
  exact q hw _ (Same.upd_new hl0)
theorem sc_House_says:FnScope ["self","word"] ["self","word"] (defScope s_House_says):=⟨rfl,rfl,rfl,by decide +kernel,rfl,by decide +kernel,by decide +kernel⟩
theorem b_House_says (T:Txt K mg t):Binds K t.fd_House_says ["self","word"] []:=T.F_House_says.binds fun _ _ _ _ _ _ us hl=>by obtain ⟨_,_,rfl⟩:=len_2 hl;rfl
def sp_House_says (K:PySem.W.Frag) (C CB:Addr):Sp:=fun vs H Q E=>∃ (p:Addr) (d:Int) (aw:Addr) (rs:List Addr) (rss:List (List Int)) (al:Addr) (ls:List Bool) (b:Addr) (ws:List Int),vs=[.ref p,.ref b]∧HouseAt C H p d aw rs rss al ls∧Ways d rss∧0 < rss.length∧ls.length=rss.length ∧
 SqL K H b (ws.map V.int)∧SmallW ws∧ws.length≤900∧(WordOk d ws→∀ H',Same H H'→Q (.bl (ls.getD (walkI rss 0 ws).toNat false)) H')∧(¬ WordOk d ws→E (.ref CB) none H)
theorem ok_House_says (T:Txt K mg t):FnOk P w K mg base (CXr P w) 4 t.f_House_says t.fd_House_says ["self","word"] (sp_House_says K t.C_House t.C_BadWord):=by
 refine T.F_House_says.okX sc_House_says (fun vs H Q E h=>?_) (fun cdv A outer s H vs Q E hr h=>?_)
 ·obtain ⟨p,d,aw,rs,rss,al,ls,b,ws,rfl,_⟩:=h
  rfl
 ·obtain ⟨p,d,aw,rs,rss,al,ls,b,ws,rfl,hh,W,hpos,hll,hS,sm,hl,q,qe⟩:=h
  obtain ⟨dx,ho⟩:=hh.ob
  refine ⟨_,pss_one (ps_ret (pe_ix (ix_listK K) (pe_fldK K (pv 0) rfl) (pe_meth (pv 0) T.cl_House T.me_House_room_of (ok_House_room_of T) (hr.mono (by decide)) (b_House_room_of T) .nil xp_def.pass (pa_cons (pv 1) (pa_nil))) (fun _ _=>rfl))),?_⟩
  walk_at "w";refine ⟨_,rfl,p,_,dx,_,_,rfl,ho,T.cl_House,T.na_House_lamps,hfs_lamps _ _ _,?_⟩
  walk_at "w";refine ⟨p,dx,_,rfl,ho,hfs_no _ _ _ (by decide +kernel) (by decide +kernel) (by decide +kernel),?_⟩
  walk_at "w";refine ⟨p,d,aw,rs,rss,al,ls,b,ws,rfl,hh,W,hpos,hS,sm,hl,fun hw H1 hs=>?_,fun nw=>qe nw⟩
  obtain ⟨b0,b1⟩:=walkI_in W hw (Int.le_refl 0) (by omega)
  have hi:(walkI rss 0 ws).toNat < ls.length:=by omega
  refine r_ixL (SqL.of (hs _ _ hh.lamps)) (atI_get' b0 (bl_map_get (List.getElem?_eq_getElem hi))) ?_
  have:=q hw H1 hs
  rw [List.getD_eq_getElem?_getD,List.getElem?_eq_getElem hi,Option.getD_some] at this
  exact this
theorem sc_Book_init:FnScope ["self","doors"] ["self","doors"] (defScope s_Book_init):=⟨rfl,rfl,rfl,by decide +kernel,rfl,by decide +kernel,by decide +kernel⟩
theorem b_Book_init (T:Txt K mg t):Binds K t.fd_Book_init ["self","doors"] []:=T.F_Book_init.binds fun _ _ _ _ _ _ us hl=>by obtain ⟨_,_,rfl⟩:=len_2 hl;rfl
def sp_Book_init (C CE:Addr):Sp:=fun vs H Q E=>∃ (p dx:Addr) (d:Int),vs=[.ref p,.int d]∧H p=some (.ins C dx [])∧-1000000≤d∧d≤1000000 ∧
 (1≤d∧d≤6→∀ (H':Hp) (nb:Addr),BookAt C H' p d nb []→(∀ b o,H b=some o→b≠p→H' b=some o)→H nb=none→Q .non H')∧(¬ (1≤d∧d≤6)→E (.ref CE) none H)
theorem ok_Book_init (T:Txt K mg t):FnOk P w K mg base (CXr P w) 2 t.f_Book_init t.fd_Book_init ["self","doors"] (sp_Book_init t.C_Book t.C_BadHouse):=by
 refine T.F_Book_init.okX sc_Book_init (fun vs H Q E h=>?_) (fun cdv A outer s H vs Q E hr h=>?_)
 ·obtain ⟨p,dx,d,rfl,_⟩:=h
  rfl
 ·obtain ⟨p,dx,d,rfl,hp,hdl,hdu,q,qe⟩:=h
  refine ⟨_,pss_cons (ps_expr (pe_call (ok_check_doors T) (hr.mono (by decide)) rfl T.mg_check_doors T.F_check_doors.kp (b_check_doors T) .nil xp_def.pass (pa_cons (pv 1) (pa_nil))))
 (pss_cons (ps_fldK K (pv 0) (pv 1) rfl)
 (pss_one (ps_fldK K (pv 0) (pe_dnewT) rfl))),?_⟩
  walk_at "w";refine ⟨d,rfl,hdl,hdu,fun hd=>?_,qe⟩
  walk_at "w";refine ⟨p,_,dx,_,rfl,hp,T.cl_Book,T.na_Book_doors,(by show 0 < 1000;decide),?_⟩
  walk_at "w";intro nb hnb
  have npn:p≠nb:=fun z=>by rw [← z,upd_same] at hnb;cases hnb
  have hnb':H nb=none:=by rw [upd_ne (Ne.symm npn)] at hnb;exact hnb
  walk_at "w";refine ⟨p,_,dx,_,rfl,(by rw [upd_ne npn];exact upd_same),T.cl_Book,T.na_Book_noted,(by have h2:=length_putF "doors" (.int d) [];simp only [List.length_nil] at h2;omega),?_⟩
  refine q hd _ nb ⟨⟨dx,upd_same⟩,by rw [upd_ne (Ne.symm npn),upd_same];rfl,by simp⟩ (fun b o e hb=>?_) hnb'
  rw [upd_ne hb,upd_ne (ne_of_none e hnb'),upd_ne hb];exact e
theorem sc_Book_said:FnScope ["self","word"] ["self","word"] (defScope s_Book_said):=⟨rfl,rfl,rfl,by decide +kernel,rfl,by decide +kernel,by decide +kernel⟩
theorem b_Book_said (T:Txt K mg t):Binds K t.fd_Book_said ["self","word"] []:=T.F_Book_said.binds fun _ _ _ _ _ _ us hl=>by obtain ⟨_,_,rfl⟩:=len_2 hl;rfl
def sp_Book_said (K:PySem.W.Frag) (C CB:Addr):Sp:=fun vs H Q E=>∃ (p:Addr) (d:Int) (nb:Addr) (kvs:List (List Int×Bool)) (b:Addr) (ws:List Int),vs=[.ref p,.ref b]∧BookAt C H p d nb kvs∧SqL K H b (ws.map V.int)∧SmallW ws ∧
 (WordOk d ws→∀ H',Same H H'→Q (saidV kvs ws) H')∧(¬ WordOk d ws→E (.ref CB) none H)
theorem ok_Book_said (T:Txt K mg t):FnOk P w K mg base (CXr P w) 2 t.f_Book_said t.fd_Book_said ["self","word"] (sp_Book_said K t.C_Book t.C_BadWord):=by
 refine T.F_Book_said.okX sc_Book_said (fun vs H Q E h=>?_) (fun cdv A outer s H vs Q E hr h=>?_)
 ·obtain ⟨p,d,nb,kvs,b,ws,rfl,_⟩:=h
  rfl
 ·obtain ⟨p,d,nb,kvs,b,ws,rfl,bk,hS,sm,q,qe⟩:=h
  obtain ⟨dx,ho⟩:=bk.ob
  refine ⟨_,pss_cons (ps_expr (pe_call (ok_check_word T) (hr.mono (by decide)) rfl T.mg_check_word T.F_check_word.kp (b_check_word T) .nil xp_def.pass (pa_cons (pe_fldK K (pv 0) rfl) (pa_cons (pv 1) (pa_nil)))))
 (pss_one (ps_ret (pe_dget1 hr.units1 (pe_fldK K (pv 0) rfl) (pe_callTy (call_tuple_ofK K) rfl T.m_tuple boot_tuple (pa_cons (pv 1) (pa_nil))) ⟨rfl,rfl,rfl,rfl⟩))),?_⟩
  walk_at "w";refine ⟨_,rfl,p,_,dx,_,_,rfl,ho,T.cl_Book,T.na_Book_doors,bkf_doors _ _,?_⟩
  walk_at "w";refine ⟨d,b,ws,rfl,hS,sm,fun hw=>?_,fun nw=>qe nw⟩
  walk_at "w";refine ⟨_,rfl,p,_,dx,_,_,rfl,ho,T.cl_Book,T.na_Book_noted,bkf_noted _ _,?_⟩
  refine ⟨nb,rfl,.inr ⟨_,.inl bk.noted⟩,?_⟩
  walk_at "w";refine ⟨b,_,rfl,.inl ⟨hS,fun tp htp=>?_⟩⟩
  refine ⟨_,DGet.t (k:=ws.map Sum.inl) (by rw [upd_ne (ne_of_none bk.noted htp)];exact bk.noted) (by rw [upd_same,kv_inl]),?_⟩
  rw [valV_bkv]
  exact q hw _ (Same.upd_new htp)
theorem sc_Book_check_note:FnScope ["self","word","lit","before"] ["self","word","lit"] (defScope s_Book_check_note):=⟨rfl,rfl,rfl,by decide +kernel,rfl,by decide +kernel,by decide +kernel⟩
theorem b_Book_check_note (T:Txt K mg t):Binds K t.fd_Book_check_note ["self","word","lit"] []:=T.F_Book_check_note.binds fun _ _ _ _ _ _ us hl=>by obtain ⟨_,_,_,rfl⟩:=len_3 hl;rfl
def sp_Book_check_note (K:PySem.W.Frag) (C CB CS:Addr):Sp:=fun vs H Q E=>∃ (p:Addr) (d:Int) (nb:Addr) (kvs:List (List Int×Bool)) (b:Addr) (ws:List Int) (lit:Bool),vs=[.ref p,.ref b,.bl lit]∧BookAt C H p d nb kvs∧SqL K H b (ws.map V.int)∧SmallW ws ∧
 (WordOk d ws→saidO kvs ws≠some (!lit)→∀ H',Same H H'→Q .non H') ∧
 (WordOk d ws→saidO kvs ws=some (!lit)→∀ H',Same H H'→E (.ref CS) none H')∧(¬ WordOk d ws→E (.ref CB) none H)
theorem ok_Book_check_note (T:Txt K mg t):FnOk P w K mg base (CXr P w) 3 t.f_Book_check_note t.fd_Book_check_note ["self","word","lit"] (sp_Book_check_note K t.C_Book t.C_BadWord t.C_SaidOtherwise):=by
 refine T.F_Book_check_note.okX sc_Book_check_note (fun vs H Q E h=>?_) (fun cdv A outer s H vs Q E hr h=>?_)
 ·obtain ⟨p,d,nb,kvs,b,ws,lit,rfl,_⟩:=h
  rfl
 ·obtain ⟨p,d,nb,kvs,b,ws,lit,rfl,bk,hS,sm,q1,q3,qe⟩:=h
  obtain ⟨dx,ho⟩:=bk.ob
  refine ⟨_,pss_cons (ps_set (i:=3) sc_Book_check_note.nd rfl (Or.inl rfl) (pe_meth (pv 0) T.cl_Book T.me_Book_said (ok_Book_said T) (hr.mono (by decide)) (b_Book_said T) .nil xp_def.pass (pa_cons (pv 1) (pa_nil))))
 (pss_one (ps_if (PW.pt (pw_and (pt_cmpR op_notN (pv 3) (pe_non) (nomark _)) (pw_and1 (pt_cmpR op_ne (pv 3) (pv 2) (nomark _)))))
 (pss_one (ps_raise xm_def rfl rfl T.mg_SaidOtherwise T.ex_SaidOtherwise.toExcCls (pa_cons (pe_joined (pj_bl (pv 3) (pj_str (pj_nil)))) (pa_nil))))
 (pss_nil))),?_⟩
  walk_at "w";refine ⟨p,dx,_,rfl,ho,bkf_no _ _ (by decide +kernel) (by decide +kernel),?_⟩
  walk_at "w";refine ⟨p,d,nb,kvs,b,ws,rfl,bk,hS,sm,fun hw H1 hs1=>?_,fun nw=>qe nw⟩
  walk_at "w";refine ⟨rfl,?_⟩
  walk_at "w";cases hsaid:saidO kvs ws with
  | none =>
   refine r_iteN (by simp [saidV,hsaid]) ?_
   walk_at "w";refine r_iteN rfl ?_
   exact q1 hw (by rw [hsaid];intro z;cases z) _ hs1
  | some c =>
   refine r_iteP (by simp [saidV,hsaid]) ?_
   walk_at "w";have hv:saidV kvs ws=.bl c:=by simp [saidV,hsaid]
   rw [hv]
   refine r_ne rfl ?_
   walk_at "w";by_cases hcl:c=lit
   ·subst hcl
    refine r_iteN (by simp) ?_
    exact q1 hw (by rw [hsaid];intro z;cases c <;> simp at z) _ hs1
   ·have hc2:c=!lit:=by cases c <;> cases lit <;> simp_all
    refine r_iteP (by simpa using hcl) ?_
    walk_at "w";exact fun _=>⟨show 1≤sizeLine by decide,q3 hw (by rw [hsaid,hc2]) _ hs1⟩
theorem sc_Book_note:FnScope ["self","word","lit"] ["self","word","lit"] (defScope s_Book_note):=⟨rfl,rfl,rfl,by decide +kernel,rfl,by decide +kernel,by decide +kernel⟩
theorem b_Book_note (T:Txt K mg t):Binds K t.fd_Book_note ["self","word","lit"] []:=T.F_Book_note.binds fun _ _ _ _ _ _ us hl=>by obtain ⟨_,_,_,rfl⟩:=len_3 hl;rfl
def sp_Book_note (K:PySem.W.Frag) (C CB CS:Addr):Sp:=fun vs H Q E=>∃ (p:Addr) (d:Int) (nb:Addr) (kvs:List (List Int×Bool)) (b:Addr) (ws:List Int) (lit:Bool),vs=[.ref p,.ref b,.bl lit]∧BookAt C H p d nb kvs∧SqL K H b (ws.map V.int)∧SmallW ws∧kvs.length≤100000 ∧
 (WordOk d ws→saidO kvs ws=none→∀ H',BookAt C H' p d nb (kvs++[(ws,lit)])→(∀ y o,y≠nb→H y=some o→H' y=some o)→Q .non H') ∧
 (WordOk d ws→saidO kvs ws=some lit→∀ H',Same H H'→Q .non H') ∧
 (WordOk d ws→saidO kvs ws=some (!lit)→∀ H',Same H H'→E (.ref CS) none H')∧(¬ WordOk d ws→E (.ref CB) none H)
theorem ok_Book_note (T:Txt K mg t):FnOk P w K mg base (CXr P w) 4 t.f_Book_note t.fd_Book_note ["self","word","lit"] (sp_Book_note K t.C_Book t.C_BadWord t.C_SaidOtherwise):=by
 refine T.F_Book_note.okX sc_Book_note (fun vs H Q E h=>?_) (fun cdv A outer s H vs Q E hr h=>?_)
 ·obtain ⟨p,d,nb,kvs,b,ws,lit,rfl,_⟩:=h
  rfl
 ·obtain ⟨p,d,nb,kvs,b,ws,lit,rfl,bk,hS,sm,h900,q1,q2,q3,qe⟩:=h
  obtain ⟨dx,ho⟩:=bk.ob
  refine ⟨_,pss_cons (ps_expr (pe_meth (pv 0) T.cl_Book T.me_Book_check_note (ok_Book_check_note T) (hr.mono (by decide)) (b_Book_check_note T) .nil xp_def.pass (pa_cons (pv 1) (pa_cons (pv 2) (pa_nil)))))
 (pss_one (ps_dput hr.units1 (pe_fldK K (pv 0) rfl) (pe_callTy (call_tuple_ofK K) rfl T.m_tuple boot_tuple (pa_cons (pv 1) (pa_nil))) (pv 2) rfl)),?_⟩
  walk_at "w";refine ⟨p,dx,_,rfl,ho,bkf_no _ _ (by decide +kernel) (by decide +kernel),?_⟩
  walk_at "w";refine ⟨p,d,nb,kvs,b,ws,lit,rfl,bk,hS,sm,fun hw hno H1 hs1=>?_,fun hw hs=>q3 hw hs,fun nw=>qe nw⟩
  walk_at "w";have bk1:=bk.same hs1
  obtain ⟨dx1,ho1⟩:=bk1.ob
  refine ⟨_,rfl,p,_,dx1,_,_,rfl,ho1,T.cl_Book,T.na_Book_noted,bkf_noted _ _,?_⟩
  walk_at "w";refine ⟨b,_,rfl,.inl ⟨sqL_same hs1 hS,fun tp htp=>?_⟩⟩
  have s2:Same H1 (upd H1 tp (.tup (ws.map V.int))):=Same.upd_new htp
  have tpv:(upd H1 tp (.tup (ws.map V.int))) tp=some (.tup ((ws.map (Sum.inl:Int→Key)).map kV)):=by rw [upd_same,kv_inl]
  generalize upd H1 tp (.tup (ws.map V.int))=H2 at s2 tpv ⊢
  have bk2:=bk1.same s2
  refine ⟨nb,_,rfl,DPut.t bk2.noted tpv (by rw [List.length_map];exact Nat.lt_of_le_of_lt h900 (by decide)),?_⟩
  cases hsaid:saidO kvs ws with
  | none =>
   rw [putK_new _ (by rw [valV_bkv,hsaid];rfl)]
   walk_at "w";obtain ⟨dx2,ho2⟩:=bk2.ob
   have hpn:p≠nb:=ne_of ho2 bk2.noted (fun z=>nomatch z)
   refine q1 hw hsaid _ ⟨⟨dx2,by rw [upd_ne hpn];exact ho2⟩,by rw [upd_same,List.map_append];rfl,book_nd bk.nd hsaid⟩ fun y o hy e=>?_
   rw [upd_ne hy];exact s2 _ _ (hs1 _ _ e)
  | some c =>
   have hc:c=lit:=by
    rw [hsaid] at hno
    cases c <;> cases lit <;> simp at hno <;> rfl
   subst hc
   rw [book_again bk.nd hsaid]
   walk_at "w";refine q2 hw hsaid _ fun y o e=>?_
   have e2:=s2 _ _ (hs1 _ _ e)
   by_cases hy:y=nb
   ·subst hy;rw [bk2.noted] at e2;rw [upd_same];exact e2
   ·rw [upd_ne hy];exact e2
theorem sc_Book_all_said:FnScope ["self"] ["self"] (defScope s_Book_all_said):=⟨rfl,rfl,rfl,by decide +kernel,rfl,by decide +kernel,by decide +kernel⟩
theorem b_Book_all_said (T:Txt K mg t):Binds K t.fd_Book_all_said ["self"] []:=T.F_Book_all_said.binds fun _ _ _ _ _ _ us hl=>by obtain ⟨_,rfl⟩:=len_1 hl;rfl
def sp_Book_all_said (K:PySem.W.Frag) (C:Addr):Sp:=fun vs H Q _=>∃ (p:Addr) (d:Int) (nb:Addr) (kvs:List (List Int×Bool)),vs=[.ref p]∧BookAt C H p d nb kvs∧kvs.length≤900 ∧
 ∀ (H':Hp) (l:Addr) (ts as:List Addr),ts.length=kvs.length→as.length=kvs.length→SaidAt H H' l ts as kvs→Q (.ref l) H'
theorem ok_Book_all_said (T:Txt K mg t):FnOk P w K mg base CX0 1 t.f_Book_all_said t.fd_Book_all_said ["self"] (sp_Book_all_said K t.C_Book):=by
 refine T.F_Book_all_said.ok sc_Book_all_said (fun vs H Q E h=>?_) (fun cdv A outer s H vs Q E hr h=>?_)
 ·obtain ⟨p,d,nb,kvs,rfl,_⟩:=h
  rfl
 ·obtain ⟨p,d,nb,kvs,rfl,bk,h900,q⟩:=h
  obtain ⟨dx,ho⟩:=bk.ob
  refine ⟨_,pss_one (ps_ret (pe_thaw (pe_comp (N:=["self"]) (sc0:=(defScope s_Book_all_said)) (N':=["word","lit"]) (caps:=[none,none]) (by exact ⟨rfl,by decide +kernel,by decide +kernel,by decide +kernel,rfl,rfl,by decide +kernel⟩) rfl (pi_itemsT (pe_bm0K K PySem.F.plainAttrs_dict PySem.F.slot_dict_items PySem.F.type_dict_items mt_items (pe_fldK K (pv 0) rfl))) (fun _ _ _ _ _ _=>pg_tupK K (n:=2) rfl (pgs_cons (pg_name (i:=0) (show List.Nodup (["word","lit"]:List Str) from by decide +kernel) rfl (Or.inl rfl)) (pgs_cons (pg_name (i:=1) (show List.Nodup (["word","lit"]:List Str) from by decide +kernel) rfl (Or.inl rfl)) (pgs_nil)))) (fun _ _ _ _ _ _=>pe_tup (pa_cons (pe_callTy (call_list_ofK K) rfl T.m_list boot_list (pa_cons (pv 0) (pa_nil))) (pa_cons (pv 1) (pa_nil))))))),?_⟩
  walk_at "w";refine ⟨_,rfl,p,_,dx,_,_,rfl,ho,T.cl_Book,T.na_Book_noted,bkf_noted _ _,?_⟩
  refine ⟨.inr (.inr (.inl ⟨rfl,.inr ⟨_,bk.noted⟩⟩)),?_⟩
  refine ⟨nb,rfl,rfl,.inr ⟨_,.inl bk.noted⟩,fun v hv=>?_⟩
  have hs1:Same H (upd H v (.ext (ItemsAt v nb))):=Same.upd_new hv
  refine ⟨v,nb,kvs.map bkv,rfl,upd_same,hs1 _ _ bk.noted,fun od bs hbl hky th=>?_⟩
  rw [List.length_map] at hbl
  have hvn:v≠nb:=fun z=>by rw [z,bk.noted] at hv;cases hv
  have hsF:∀ b o,b≠nb→H b=some o→(upd (upd H v (.ext (ItemsAt v nb))) nb (.ext (HeldAt nb od))) b=some o:=fun b o hb e=>by rw [upd_ne hb];exact hs1 _ _ e
  have hkF:∀ (i:Nat) b w y,bs[i]?=some b→kvs[i]?=some (w,y)→(upd (upd H v (.ext (ItemsAt v nb))) nb (.ext (HeldAt nb od))) b=some (.tup (w.map V.int)):=fun i b w y e1 e2=>by
   have h1:=hky i b (w.map Sum.inl) (.bl y) e1 (by rw [List.getElem?_map,e2];rfl)
   rw [kv_inl] at h1
   rw [upd_ne (ne_of h1 (hs1 _ _ bk.noted) (fun z=>nomatch z))];exact h1
  have hdF:(upd (upd H v (.ext (ItemsAt v nb))) nb (.ext (HeldAt nb od))) nb=some (.ext (HeldAt nb od)):=upd_same
  have nF:∀ b,(upd (upd H v (.ext (ItemsAt v nb))) nb (.ext (HeldAt nb od))) b=none→H b=none:=fun b e=>by
   by_cases hb:b=nb
   ·subst hb;rw [upd_same] at e;cases e
   ·rw [upd_ne hb] at e;exact hs1.free e
  generalize upd (upd H v (.ext (ItemsAt v nb))) nb (.ext (HeldAt nb od))=F at hsF hkF hdF nF ⊢
  have hzl:(List.zipWith (fun b (kv:List Key×V)=>(V.ref b,kv.2)) bs (kvs.map bkv)).length=kvs.length:=by simp [hbl]
  have hz:∀ (i:Nat) k y,(List.zipWith (fun b (kv:List Key×V)=>(V.ref b,kv.2)) bs (kvs.map bkv))[i]?=some (k,y)→∃ b w c,bs[i]?=some b∧kvs[i]?=some (w,c)∧k=.ref b∧y=.bl c:=fun i k y e=>by
   obtain ⟨hi,_⟩:=List.getElem?_eq_some_iff.mp e
   rw [hzl] at hi
   have hb:i < bs.length:=by omega
   rw [List.getElem?_zipWith,List.getElem?_eq_getElem hb,List.getElem?_map,List.getElem?_eq_getElem hi] at e
   simp only [Option.map_some,Option.some.injEq,Prod.mk.injEq] at e
   exact ⟨bs[i],kvs[i].1,kvs[i].2,List.getElem?_eq_getElem hb,List.getElem?_eq_getElem hi,e.1.symm,e.2.symm⟩
  refine comp_items (P:=P) (w:=w) (fun acc i ys H'=>∃ ts as:List Addr,ys=ts.map V.ref∧ts.length=i∧as.length=i∧Same F H'∧H' acc=some (.lst (ts.map V.ref))∧(acc :: as).Nodup∧(∀ b∈acc :: as,F b=none)∧acc∉ts ∧
    (∀ (j:Nat) t a w b,ts[j]?=some t→as[j]?=some a→kvs[j]?=some (w,b)→H' t=some (.tup [.ref a,.bl b]))∧(∀ (j:Nat) a w b,as[j]?=some a→kvs[j]?=some (w,b)→H' a=some (.lst (w.map V.int))))
   (fun acc hacc=>⟨[],[],rfl,rfl,rfl,Same.upd_new hacc,upd_same,by simp,fun b hb=>by rw [List.mem_singleton.mp hb];exact hacc,by simp,fun j t a w b e=>by simp at e,fun j a w b e=>by simp at e⟩)
   (fun acc i ys H' hacc hi p=>?_) (fun acc i k y ys H' t0 hacc hx p ht0=>?_) (fun acc ys H' hacc p=>?_)
  ·obtain ⟨ts,as,_,_,_,hs,_⟩:=p
   exact hs _ _ hdF
  ·obtain ⟨ts,as,rfl,hlt,hla,hs,hacc',hnd,hnew,hat,htp,hrw⟩:=p
   obtain ⟨b,wd,c,e1,e2,rfl,rfl⟩:=hz i k y hx
   have hi:i < kvs.length:=(List.getElem?_eq_some_iff.mp e2).1
   have hsT:Same H' (upd H' t0 (.tup [.ref b,.bl c])):=Same.upd_new ht0
   have htb:=hsT _ _ (hs _ _ (hkF i b wd c e1 e2))
   have ht:(upd H' t0 (.tup [.ref b,.bl c])) t0=some (.tup [.ref b,.bl c]):=upd_same
   have hs2:Same F (upd H' t0 (.tup [.ref b,.bl c])):=hs.trans hsT
   generalize upd H' t0 (.tup [.ref b,.bl c])=H2 at hsT htb ht hs2 ⊢
   refine ⟨t0,_,rfl,SqT.of ht,rfl,_,_,rfl,?_⟩
   walk_at "w";refine ⟨_,_,rfl,?_⟩
   walk_at "w";refine ⟨rfl,?_⟩
   walk_at "w";refine ⟨⟨by simp [capσ],fun j z e=>?_⟩,?_⟩
   ·simp [capσ] at e
    rcases j with _ | _ | j <;> simp at e
   walk_at "w";refine ⟨b,_,rfl,.inr (SqT.of htb),fun a ha=>?_⟩
   have hs3:Same H2 (upd H2 a (.lst (wd.map V.int))):=Same.upd_new ha
   have hav:(upd H2 a (.lst (wd.map V.int))) a=some (.lst (wd.map V.int)):=upd_same
   generalize upd H2 a (.lst (wd.map V.int))=H3 at hs3 hav ⊢
   walk_at "w";refine ⟨by show 2≤sizeLine;decide,fun t ht'=>?_⟩
   have hs4:Same H3 (upd H3 t (.tup [.ref a,.bl c])):=Same.upd_new ht'
   have htv:(upd H3 t (.tup [.ref a,.bl c])) t=some (.tup [.ref a,.bl c]):=upd_same
   generalize upd H3 t (.tup [.ref a,.bl c])=H4 at hs4 htv ⊢
   have s24:Same H2 H4:=hs3.trans hs4
   have s04:Same H' H4:=hsT.trans s24
   have hacc4:=s04 _ _ hacc'
   refine ⟨hacc4,small1000 (by simp;omega),ts++[t],as++[a],by simp,by simp [hlt],by simp [hla],?_,?_,?_,?_,?_,?_,?_⟩
   ·exact Same.upd_fresh (hs2.trans s24) (hnew acc List.mem_cons_self)
   ·rw [upd_same,List.map_append];rfl
   ·have ha':H' a=none:=by
     have:=hsT.free ha;exact this
    have nin:a∉acc :: as:=fun hm=>by
     rcases List.mem_cons.mp hm with rfl | hm
     ·rw [hacc'] at ha';cases ha'
     ·obtain ⟨j,hj⟩:=List.getElem?_of_mem hm
      obtain ⟨hj1,_⟩:=List.getElem?_eq_some_iff.mp hj
      have hjk:j < kvs.length:=by omega
      rw [hrw j a kvs[j].1 kvs[j].2 hj (List.getElem?_eq_getElem hjk)] at ha';cases ha'
    rw [← List.cons_append]
    exact nd_snoc hnd nin
   ·intro x hx
    have hx:x∈(acc :: as)++[a]:=hx
    rcases List.mem_append.mp hx with hx | hx
    ·exact hnew x hx
    ·rw [List.mem_singleton.mp hx];exact hs2.free ha
   ·intro hm
    rcases List.mem_append.mp hm with hm | hm
    ·exact hat hm
    ·rw [← List.mem_singleton.mp hm] at ht'
     have:=hs3.free ht'
     rw [hsT _ _ hacc'] at this;cases this
   ·intro j t1 a1 w1 b1 f1 f2 f3
    by_cases hj:j < i
    ·rw [List.getElem?_append_left (by omega)] at f1 f2
     have h0:=htp j t1 a1 w1 b1 f1 f2 f3
     have hne1:t1≠acc:=fun z=>hat (by rw [← z];exact List.mem_of_getElem? f1)
     rw [upd_ne hne1]
     exact s04 _ _ h0
    ·have hj2:j=i:=by
      obtain ⟨hj1,_⟩:=List.getElem?_eq_some_iff.mp f1
      simp at hj1;omega
     subst hj2
     rw [List.getElem?_append_right (by omega),hlt,Nat.sub_self] at f1
     rw [List.getElem?_append_right (by omega),hla,Nat.sub_self] at f2
     rw [e2] at f3
     cases f1;cases f2;cases f3
     have hta:t≠acc:=fun z=>by
      rw [z] at ht'
      have:=hs3.free ht'
      rw [hsT _ _ hacc'] at this;cases this
     rw [upd_ne hta];exact htv
   ·intro j a1 w1 b1 f2 f3
    have hne:a1≠acc:=fun z=>by
     have hm:=List.mem_of_getElem? f2
     rcases List.mem_append.mp hm with hm | hm
     ·exact (List.nodup_cons.mp hnd).1 (z ▸ hm)
     ·rw [List.mem_singleton.mp hm] at z
      rw [z,hsT _ _ hacc'] at ha;cases ha
    rw [upd_ne hne]
    by_cases hj:j < i
    ·rw [List.getElem?_append_left (by omega)] at f2
     exact s04 _ _ (hrw j a1 w1 b1 f2 f3)
    ·have hj2:j=i:=by
      obtain ⟨hj1,_⟩:=List.getElem?_eq_some_iff.mp f2
      simp at hj1;omega
     subst hj2
     rw [List.getElem?_append_right (by omega),hla,Nat.sub_self] at f2
     rw [e2] at f3
     cases f2;cases f3
     exact hs4 _ _ hav
  ·obtain ⟨ts,as,rfl,hlt,hla,hs,hacc',hnd,hnew,hat,htp,hrw⟩:=p
   rw [hzl] at hlt hla
   have hacN:acc≠nb:=fun z=>by rw [z,hdF] at hacc;cases hacc
   refine ⟨nb,od,kvs.map bkv,bs,th,hs _ _ hdF,by rw [List.length_map];exact hbl,fun i b k y e1 e2=>?_,?_⟩
   ·rw [List.getElem?_map] at e2
    cases e3:kvs[i]? with
    | none=>rw [e3] at e2;cases e2
    | some x =>
     rw [e3] at e2;cases e2
     have:=hs _ _ (hkF i b x.1 x.2 e1 e3)
     rw [kv_inl];exact this
   ·refine q _ acc ts as hlt hla ⟨by rw [upd_ne hacN];exact hacc',fun i t a w b f1 f2 f3=>?_,fun i a w b f2 f3=>?_,hnd,fun b hb=>nF b (hnew b hb),fun b o e=>?_⟩
    ·have h0:=htp i t a w b f1 f2 f3
     rw [upd_ne (ne_of h0 (hs _ _ hdF) (fun z=>nomatch z))];exact h0
    ·have h0:=hrw i a w b f2 f3
     rw [upd_ne (ne_of h0 (hs _ _ hdF) (fun z=>nomatch z))];exact h0
    ·by_cases hb:b=nb
     ·subst hb;rw [bk.noted] at e;cases e;exact upd_same
     ·rw [upd_ne hb];exact hs _ _ (hsF b o hb e)
theorem sc_Learner_add_head:FnScope ["self","head","door"] ["self","head"] (defScope s_Learner_add_head):=⟨rfl,rfl,rfl,by decide +kernel,rfl,by decide +kernel,by decide +kernel⟩
theorem b_Learner_add_head (T:Txt K mg t):Binds K t.fd_Learner_add_head ["self","head"] []:=T.F_Learner_add_head.binds fun _ _ _ _ _ _ us hl=>by obtain ⟨_,_,rfl⟩:=len_2 hl;rfl
structure LStepA (p a:Addr) (L L':LA) (H H':Hp):Prop where
 kp:∀ b o,b∉mutL p L→H b=some o→H' b=some o
 own:∀ b∈ownL p L',b∈ownL p L∨b=a∨H b=none
 mu:∀ b∈mutL p L',b∈mutL p L∨H b=none
def sp_Learner_add_head (C CB:Addr):Sp:=fun vs H Q _=>∃ (p:Addr) (d:Int) (L:LA) (kn:Bk) (heads tails:List (List Int)) (rows:List (List Bool)) (f:Nat) (a:Addr) (w:List Int),vs=[.ref p,.ref a]∧LrnAt C CB H p d L kn heads tails rows f ∧
 H a=some (.lst (w.map V.int))∧a∉mutL p L∧0≤d∧d≤6∧heads.length≤400∧w.length≤1000∧rows.length=(linesOf d heads).length ∧
 ∀ H' L',LrnAt C CB H' p d L' kn (heads++[w]) tails (rows++List.replicate (d.toNat+1) []) f→LStepA p a L L' H H'→Q .non H'
structure HG (p:Addr) (L:LA) (H H':Hp) (a:Addr) (w:List Int) (i:Nat) (es rs:List Addr):Prop where
 kp:∀ b o,b≠L.ha→b≠L.li→b≠L.ro→H b=some o→H' b=some o
 hds:H' L.ha=some (.lst ((L.hA++[a]).map V.ref))
 lns:H' L.li=some (.lst ((L.lA++a :: es).map V.ref))
 lnw:LsAt V.int H' es ((List.range i).map fun (j:Nat)=>w++[(j:Int)])
 rws:H' L.ro=some (.lst ((L.rA++rs).map V.ref))
 rww:∀ b∈rs,H' b=some (.lst (([]:List Bool).map V.bl))
 rnd:rs.Nodup
 new:∀ b,b∈es∨b∈rs→H b=none
theorem ok_Learner_add_head (T:Txt K mg t):FnOk P w K mg base CX0 1 t.f_Learner_add_head t.fd_Learner_add_head ["self","head"] (sp_Learner_add_head t.C_Learner t.C_Book):=by
 refine T.F_Learner_add_head.ok sc_Learner_add_head (fun vs H Q E h=>?_) (fun cdv A outer s H vs Q E hr h=>?_)
 ·obtain ⟨p,d,L,kn,heads,tails,rows,f,a,w,rfl,_⟩:=h
  rfl
 ·obtain ⟨p,d,L,kn,heads,tails,rows,f,a,w,rfl,lr,ha,na,hd0,hd6,hh4,hw1,hrl,q⟩:=h
  obtain ⟨dx,fs,ho,hf⟩:=lr.ob
  have nd:=lr.nd
  simp only [mutL,List.nodup_cons,List.mem_cons,not_or] at nd
  obtain ⟨⟨p1,p2,p3,p4,p5,p6,p7⟩,⟨_,b3,b4,b5,b6,_⟩,⟨c3,c4,c5,c6,_⟩,⟨d4,d5,d6,d7⟩,⟨e5,e6,e7⟩,⟨f6,f7⟩,g7,_⟩:=nd
  have na1:a≠L.ha:=fun z=>na (by rw [z];exact mut_ha)
  have na2:a≠L.li:=fun z=>na (by rw [z];exact mut_li)
  have na3:a≠L.ro:=fun z=>na (by rw [z];exact mut_ro)
  have lhA:L.hA.length=heads.length:=lr.hdw.len
  have llA:L.lA.length=heads.length * (d.toNat+1):=by rw [lr.lnw.len,linesOf_len]
  have lrA:L.rA.length=heads.length * (d.toNat+1):=by rw [lr.rww.len,hrl,linesOf_len]
  have hb1:heads.length * (d.toNat+1)≤2800:=by
   have:heads.length * (d.toNat+1)≤400 * 7:=Nat.mul_le_mul hh4 (by omega)
   omega
  refine ⟨_,pss_cons (ps_expr (pe_bmK K PySem.F.plainAttrs_list PySem.F.slot_list_append PySem.F.type_list_append mt_append (pe_fldK K (pv 0) rfl) (pa_cons (pv 1) (pa_nil))))
 (pss_cons (ps_expr (pe_bmK K PySem.F.plainAttrs_list PySem.F.slot_list_append PySem.F.type_list_append mt_append (pe_fldK K (pv 0) rfl) (pa_cons (pv 1) (pa_nil))))
 (pss_cons (ps_expr (pe_bmK K PySem.F.plainAttrs_list PySem.F.slot_list_append PySem.F.type_list_append mt_append (pe_fldK K (pv 0) rfl) (pa_cons (pe_lst (pa_nil)) (pa_nil))))
 (pss_one (ps_for PassesOwn.never rfl (pi_range1 rfl T.m_range (pa_cons (pe_fldK K (pv 0) rfl) (pa_nil))) (pg_name (i:=2) sc_Learner_add_head.nd rfl (Or.inl rfl))
 (pss_cons (ps_expr (pe_bmK K PySem.F.plainAttrs_list PySem.F.slot_list_append PySem.F.type_list_append mt_append (pe_fldK K (pv 0) rfl) (pa_cons (pe_op op_cat (pv 1) (pe_lst (pa_cons (pv 2) (pa_nil)))) (pa_nil))))
 (pss_one (ps_expr (pe_bmK K PySem.F.plainAttrs_list PySem.F.slot_list_append PySem.F.type_list_append mt_append (pe_fldK K (pv 0) rfl) (pa_cons (pe_lst (pa_nil)) (pa_nil)))))))))),?_⟩
  walk_at "w";refine ⟨_,rfl,p,_,dx,_,_,rfl,ho,T.cl_Learner,T.na_Learner_heads,hf.heads,?_⟩
  walk_at "w";refine ⟨.inl ⟨rfl,_,SqL.of lr.hds⟩,?_⟩
  walk_at "w";refine ⟨L.ha,_,_,rfl,rfl,lr.hds,big6 (by rw [List.length_map];omega),?_⟩
  walk_at "w";refine ⟨_,rfl,p,_,dx,_,_,rfl,by rw [upd_ne p3];exact ho,T.cl_Learner,T.na_Learner_lines,hf.lines,?_⟩
  walk_at "w";have li1:(upd H L.ha (.lst (L.hA.map V.ref++[.ref a]))) L.li=some (.lst (L.lA.map V.ref)):=by rw [upd_ne (Ne.symm d5)];exact lr.lns
  refine ⟨.inl ⟨rfl,_,SqL.of li1⟩,?_⟩
  walk_at "w";refine ⟨L.li,_,_,rfl,rfl,li1,big6 (by rw [List.length_map];omega),?_⟩
  walk_at "w";refine ⟨_,rfl,p,_,dx,_,_,rfl,by rw [upd_ne p5,upd_ne p3];exact ho,T.cl_Learner,T.na_Learner_rows,hf.rows,?_⟩
  walk_at "w";have ro1:(upd (upd H L.ha (.lst (L.hA.map V.ref++[.ref a]))) L.li (.lst (L.lA.map V.ref++[.ref a]))) L.ro=some (.lst (L.rA.map V.ref)):=by rw [upd_ne (Ne.symm f6),upd_ne (Ne.symm d6)];exact lr.rws
  refine ⟨.inl ⟨rfl,_,SqL.of ro1⟩,?_⟩
  walk_at "w";refine ⟨Nat.zero_le _,fun r0 hr0=>?_⟩
  walk_at "w";have hr0H:H r0=none:=by
   by_cases z1:r0=L.li
   ·rw [z1,upd_same] at hr0;cases hr0
   ·rw [upd_ne z1] at hr0
    by_cases z2:r0=L.ha
    ·rw [z2,upd_same] at hr0;cases hr0
    ·rw [upd_ne z2] at hr0;exact hr0
  have nr1:L.ha≠r0:=ne_of_none lr.hds hr0H
  have nr2:L.li≠r0:=ne_of_none lr.lns hr0H
  have nr3:L.ro≠r0:=ne_of_none lr.rws hr0H
  refine ⟨L.ro,_,_,rfl,rfl,by rw [upd_ne nr3];exact ro1,big6 (by rw [List.length_map];omega),?_⟩
  have G0:HG p L H (upd (upd (upd (upd H L.ha (.lst (L.hA.map V.ref++[.ref a]))) L.li (.lst (L.lA.map V.ref++[.ref a]))) r0 (.lst [])) L.ro (.lst (L.rA.map V.ref++[.ref r0]))) a w 0 [] [r0]:=by
   refine ⟨fun b o h1 h2 h3 e=>?_,?_,?_,⟨rfl,fun i b v h1 h2=>by simp at h1⟩,?_,fun b hb=>?_,by simp,fun b hb=>?_⟩
   ·rw [upd_ne h3,upd_ne (ne_of_none e hr0H),upd_ne h2,upd_ne h1];exact e
   ·rw [upd_ne d6,upd_ne nr1,upd_ne d5,upd_same,List.map_append];rfl
   ·rw [upd_ne f6,upd_ne nr2,upd_same,List.map_append];rfl
   ·rw [upd_same,List.map_append];rfl
   ·rw [List.mem_singleton.mp hb,upd_ne (Ne.symm nr3),upd_same];rfl
   ·rcases hb with hb | hb
    ·exact nomatch hb
    ·rw [List.mem_singleton.mp hb];exact hr0H
  generalize upd (upd (upd (upd H L.ha (.lst (L.hA.map V.ref++[.ref a]))) L.li (.lst (L.lA.map V.ref++[.ref a]))) r0 (.lst [])) L.ro (.lst (L.rA.map V.ref++[.ref r0]))=H1 at G0 ⊢
  walk_at "w";refine ⟨_,rfl,p,_,dx,_,_,rfl,G0.kp _ _ p3 p5 p6 ho,T.cl_Learner,T.na_Learner_doors,hf.doors,?_⟩
  walk_at "w";refine ⟨_,rfl,by omega,by omega,?_⟩
  refine for_range (fun i σ H'=>∃ es rs,es.length=i∧rs.length=i+1∧HG p L H H' a w i es rs∧∃ k2,σ=[some (.ref p),some (.ref a),k2]) ⟨[],[r0],rfl,rfl,G0,_,rfl⟩ (fun i σ H2 hi pp=>?_) (fun σ H2 pp=>?_)
  ·obtain ⟨es,rs,hes,hrs,G,k2,rfl⟩:=pp
   have e0:(0:Int)+(i:Int)=(i:Int):=by omega
   rw [e0]
   walk_at "w";refine ⟨_,rfl,p,_,dx,_,_,rfl,G.kp _ _ p3 p5 p6 ho,T.cl_Learner,T.na_Learner_lines,hf.lines,?_⟩
   walk_at "w";refine ⟨.inl ⟨rfl,_,SqL.of G.lns⟩,?_⟩
   walk_at "w";refine ⟨by show 1≤sizeLine;decide,fun c1 hc1=>?_⟩
   have hc1H:H c1=none:=by
    cases hh:H c1 with
    | none=>rfl
    | some o =>
     rw [G.kp c1 o (fun z=>by rw [z,G.hds] at hc1;cases hc1) (fun z=>by rw [z,G.lns] at hc1;cases hc1) (fun z=>by rw [z,G.rws] at hc1;cases hc1) hh] at hc1
     cases hc1
   have s3:Same H2 (upd H2 c1 (.lst [.int (i:Int)])):=Same.upd_new hc1
   have c13:(upd H2 c1 (.lst [.int (i:Int)])) c1=some (.lst [.int (i:Int)]):=upd_same
   have G3:HG p L H (upd H2 c1 (.lst [.int (i:Int)])) a w i es rs:=⟨fun b o h1 h2 h3 e=>s3 _ _ (G.kp b o h1 h2 h3 e),s3 _ _ G.hds,s3 _ _ G.lns,G.lnw.keep fun b _ o=>s3 b o,s3 _ _ G.rws,fun b hb=>s3 _ _ (G.rww b hb),G.rnd,G.new⟩
   generalize upd H2 c1 (.lst [.int (i:Int)])=H3 at s3 c13 G3 ⊢
   refine ⟨a,c1,_,_,rfl,rfl,G3.kp _ _ na1 na2 na3 ha,c13,Nat.le_of_lt (big6 (by simp;omega)),fun c2 hc2=>?_⟩
   have ec2:w.map V.int++[V.int (i:Int)]=(w++[(i:Int)]).map V.int:=by rw [List.map_append];rfl
   rw [ec2]
   have hc2H:H c2=none:=by
    cases hh:H c2 with
    | none=>rfl
    | some o =>
     rw [G3.kp c2 o (fun z=>by rw [z,G3.hds] at hc2;cases hc2) (fun z=>by rw [z,G3.lns] at hc2;cases hc2) (fun z=>by rw [z,G3.rws] at hc2;cases hc2) hh] at hc2
     cases hc2
   have ncl:L.li≠c2:=ne_of_none G3.lns hc2
   have nch:L.ha≠c2:=ne_of_none G3.hds hc2
   have ncr:L.ro≠c2:=ne_of_none G3.rws hc2
   walk_at "w";refine ⟨L.li,_,_,rfl,rfl,by rw [upd_ne ncl];exact G3.lns,big6 (by rw [List.length_map,List.length_append,List.length_cons];omega),?_⟩
   have nes:∀ b∈es,b≠L.li:=fun b hb=>by have:=G3.new b (.inl hb);intro z;rw [z,lr.lns] at this;cases this
   have nrs:∀ b∈rs,b≠L.li:=fun b hb=>by have:=G3.new b (.inr hb);intro z;rw [z,lr.lns] at this;cases this
   have k4:∀ b o,b≠L.li→H3 b=some o→upd (upd H3 c2 (.lst ((w++[(i:Int)]).map V.int))) L.li (.lst ((L.lA++a :: es).map V.ref++[.ref c2])) b=some o:=fun b o h1 e=>by
    rw [upd_ne h1,upd_ne (ne_of_none e hc2)];exact e
   have c24:upd (upd H3 c2 (.lst ((w++[(i:Int)]).map V.int))) L.li (.lst ((L.lA++a :: es).map V.ref++[.ref c2])) c2=some (.lst ((w++[(i:Int)]).map V.int)):=by rw [upd_ne (Ne.symm ncl),upd_same]
   have li4:upd (upd H3 c2 (.lst ((w++[(i:Int)]).map V.int))) L.li (.lst ((L.lA++a :: es).map V.ref++[.ref c2])) L.li=some (.lst ((L.lA++a :: (es++[c2])).map V.ref)):=by
    rw [upd_same];simp
   generalize upd (upd H3 c2 (.lst ((w++[(i:Int)]).map V.int))) L.li (.lst ((L.lA++a :: es).map V.ref++[.ref c2]))=H4 at k4 c24 li4 ⊢
   walk_at "w";refine ⟨_,rfl,p,_,dx,_,_,rfl,k4 _ _ p5 (G3.kp _ _ p3 p5 p6 ho),T.cl_Learner,T.na_Learner_rows,hf.rows,?_⟩
   walk_at "w";have ro4:=k4 _ _ (Ne.symm f6) G3.rws
   refine ⟨.inl ⟨rfl,_,SqL.of ro4⟩,?_⟩
   walk_at "w";refine ⟨Nat.zero_le _,fun r5 hr5=>?_⟩
   walk_at "w";have nr5:L.ro≠r5:=ne_of_none ro4 hr5
   refine ⟨L.ro,_,_,rfl,rfl,by rw [upd_ne nr5];exact ro4,big6 (by rw [List.length_map,List.length_append];omega),?_⟩
   have hr5H:H r5=none:=by
    cases hh:H r5 with
    | none=>rfl
    | some o =>
     have z1:r5≠L.li:=fun z=>by rw [z,li4] at hr5;cases hr5
     have z2:r5≠L.ha:=fun z=>by rw [z,k4 _ _ d5 G3.hds] at hr5;cases hr5
     rw [k4 _ _ z1 (G3.kp r5 o z2 z1 (Ne.symm nr5) hh)] at hr5
     cases hr5
   have k6:∀ b o,b≠L.ro→H4 b=some o→upd (upd H4 r5 (.lst [])) L.ro (.lst ((L.rA++rs).map V.ref++[.ref r5])) b=some o:=fun b o h1 e=>by
    rw [upd_ne h1,upd_ne (ne_of_none e hr5)];exact e
   have nesr:∀ b,H b=none→b≠L.ro:=fun b hb z=>by rw [z,lr.rws] at hb;cases hb
   have r5rs:r5∉rs:=fun z=>by rw [k4 _ _ (nrs _ z) (G3.rww _ z)] at hr5;cases hr5
   refine ⟨es++[c2],rs++[r5],by simp [hes],by simp [hrs],⟨fun b o h1 h2 h3 e=>k6 _ _ h3 (k4 _ _ h2 (G3.kp b o h1 h2 h3 e)),k6 _ _ d6 (k4 _ _ d5 G3.hds),k6 _ _ f6 li4,?_,?_,fun b hb=>?_,?_,fun b hb=>?_⟩,_,rfl⟩
   ·rw [map_range_snoc]
    refine LsAt.snoc (G3.lnw.keep fun b hb o e=>k6 _ _ (nesr _ (G3.new b (.inl hb))) (k4 _ _ (nes b hb) e)) (k6 _ _ (nesr _ hc2H) c24)
   ·rw [upd_same];simp
   ·rcases List.mem_append.mp hb with hb | hb
    ·exact k6 _ _ (nesr _ (G3.new b (.inr hb))) (k4 _ _ (nrs b hb) (G3.rww b hb))
    ·rw [List.mem_singleton.mp hb,upd_ne (Ne.symm nr5),upd_same];rfl
   ·exact nd_snoc G3.rnd r5rs
   ·rcases hb with hb | hb
    ·rcases List.mem_append.mp hb with hb | hb
     ·exact G3.new b (.inl hb)
     ·rw [List.mem_singleton.mp hb];exact hc2H
    ·rcases List.mem_append.mp hb with hb | hb
     ·exact G3.new b (.inr hb)
     ·rw [List.mem_singleton.mp hb];exact hr5H
  ·obtain ⟨es,rs,hes,hrs,G,k2,rfl⟩:=pp
   obtain ⟨bx,hbk⟩:=lr.book.ob
   have k:∀ b o,b∉[L.ha,L.li,L.ro]→H b=some o→H2 b=some o:=fun b o hb e=>by
    simp only [List.mem_cons,List.not_mem_nil,or_false,not_or] at hb
    exact G.kp b o hb.1 hb.2.1 hb.2.2 e
   have kw:∀ b∈wdsL L,b∉[L.ha,L.li,L.ro]:=fun b hb z=>by
    simp only [List.mem_cons,List.not_mem_nil,or_false] at z
    rcases z with z | z | z
    ·exact lr.sep b hb (by rw [z];exact mut_ha)
    ·exact lr.sep b hb (by rw [z];exact mut_li)
    ·exact lr.sep b hb (by rw [z];exact mut_ro)
   have a2:H2 a=some (.lst (w.map V.int)):=G.kp _ _ na1 na2 na3 ha
   have hnm:∀ b,H b=none→b∉mutL p L:=fun b hb z=>lr.notOwn hb (own_mut z)
   have er:es=List.map id es:=by simp
   refine q H2 { L with hA:=L.hA++[a],lA:=L.lA++a :: es,rA:=L.rA++rs } ⟨⟨dx,fs,k _ _ (by simp;exact ⟨p3,p5,p6⟩) ho,hf.of rfl rfl rfl rfl rfl⟩,⟨⟨bx,k _ _ (by simp;exact ⟨b3,b5,b6⟩) hbk⟩,k _ _ (by simp;exact ⟨c3,c5,c6⟩) lr.book.noted,lr.book.nd⟩,G.hds,LsAt.snoc (lr.hdw.keep fun b hb o=>k b o (kw b (wd_h hb))) a2,k _ _ (by simp;exact ⟨Ne.symm d4,e5,e6⟩) lr.tls,lr.tlw.keep fun b hb o=>k b o (kw b (wd_t hb)),G.lns,?_,G.rws,?_,?_,?_⟩ ⟨fun b o hb e=>?_,fun b hb=>?_,fun b hb=>?_⟩
   ·rw [linesOf_snoc]
    have l1:LsAt V.int H2 (L.lA++[a]) (linesOf d heads++[w]):=LsAt.snoc (lr.lnw.keep fun b hb o=>k b o (kw b (wd_l hb))) a2
    have:=LsAt.app l1 G.lnw
    rw [List.append_assoc,List.append_assoc] at this
    have hdn:(d:Int).toNat=d.toNat:=rfl
    exact this
   ·refine LsAt.app (lr.rww.keep fun b hb o=>k b o fun z=>?_) ⟨by rw [hrs,List.length_replicate],fun i b v h1 h2=>?_⟩
    ·simp only [List.mem_cons,List.not_mem_nil,or_false] at z
     rcases z with z | z | z
     ·exact d7 (by rw [← z];exact hb)
     ·exact f7 (by rw [← z];exact hb)
     ·exact g7 (by rw [← z];exact hb)
    ·rw [(List.mem_replicate.mp (List.mem_of_getElem? h2)).2]
     exact G.rww b (List.mem_of_getElem? h1)
   ·show (p :: L.bk :: L.nb :: L.ha :: L.ta :: L.li :: L.ro :: (L.rA++rs)).Nodup
    have:(mutL p L++rs).Nodup:=List.nodup_append.mpr ⟨lr.nd,G.rnd,fun x hx y hy e=>hnm y (G.new y (.inr hy)) (by rw [← e];exact hx)⟩
    exact this
   ·intro b hb z
    have hz:b∈mutL p L++rs:=z
    have hb':b∈wdsL L∨b=a∨b∈es:=by
     rcases List.mem_append.mp hb with hb | hb
     ·rcases List.mem_append.mp hb with hb | hb
      ·rcases List.mem_append.mp hb with hb | hb
       ·exact .inl (wd_h hb)
       ·exact .inr (.inl (List.mem_singleton.mp hb))
      ·exact .inl (wd_t hb)
     ·rcases List.mem_append.mp hb with hb | hb
      ·exact .inl (wd_l hb)
      ·rcases List.mem_cons.mp hb with hb | hb
       ·exact .inr (.inl hb)
       ·exact .inr (.inr hb)
    rcases List.mem_append.mp hz with hz | hz
    ·rcases hb' with hb | hb | hb
     ·exact lr.sep b hb hz
     ·exact na (by rw [← hb];exact hz)
     ·exact hnm b (G.new b (.inl hb)) hz
    ·have hn:=G.new b (.inr hz)
     rcases hb' with hb | hb | hb
     ·exact lr.notOwn hn (own_wd hb)
     ·rw [hb,ha] at hn;cases hn
     ·obtain ⟨v,hv,e⟩:=G.lnw.mem hb
      rw [G.rww b hz] at e
      obtain ⟨j,_,rfl⟩:=List.mem_map.mp hv
      simp at e
   ·exact k b o (fun z=>hb (by
     simp only [List.mem_cons,List.not_mem_nil,or_false] at z
     rcases z with z | z | z
     ·rw [z];exact mut_ha
     ·rw [z];exact mut_li
     ·rw [z];exact mut_ro)) e
   ·rcases List.mem_append.mp hb with hb | hb
    ·have hb:b∈mutL p L++rs:=hb
     rcases List.mem_append.mp hb with hb | hb
     ·exact .inl (own_mut hb)
     ·exact .inr (.inr (G.new b (.inr hb)))
    ·rcases List.mem_append.mp hb with hb | hb
     ·rcases List.mem_append.mp hb with hb | hb
      ·rcases List.mem_append.mp hb with hb | hb
       ·exact .inl (own_wd (wd_h hb))
       ·exact .inr (.inl (List.mem_singleton.mp hb))
      ·exact .inl (own_wd (wd_t hb))
     ·rcases List.mem_append.mp hb with hb | hb
      ·exact .inl (own_wd (wd_l hb))
      ·rcases List.mem_cons.mp hb with hb | hb
       ·exact .inr (.inl hb)
       ·exact .inr (.inr (G.new b (.inl hb)))
   ·have hb:b∈mutL p L++rs:=hb
    rcases List.mem_append.mp hb with hb | hb
    ·exact .inl hb
    ·exact .inr (G.new b (.inr hb))
theorem sc_Learner_init:FnScope ["self","doors"] ["self","doors"] (defScope s_Learner_init):=⟨rfl,rfl,rfl,by decide +kernel,rfl,by decide +kernel,by decide +kernel⟩
theorem b_Learner_init (T:Txt K mg t):Binds K t.fd_Learner_init ["self","doors"] []:=T.F_Learner_init.binds fun _ _ _ _ _ _ us hl=>by obtain ⟨_,_,rfl⟩:=len_2 hl;rfl
def sp_Learner_init (C CB CE:Addr):Sp:=fun vs H Q E=>∃ (p dx:Addr) (d:Int),vs=[.ref p,.int d]∧H p=some (.ins C dx [])∧-1000000≤d∧d≤1000000 ∧
 (1≤d∧d≤6→∀ (H':Hp) (L:LA),LrnAt C CB H' p d L [] [[]] [[]] (List.replicate (d.toNat+1) []) 0→(∀ b o,H b=some o→b≠p→H' b=some o)→(∀ b∈ownL p L,b≠p→H b=none)→Q .non H') ∧
 (¬ (1≤d∧d≤6)→∀ H',Same H H'→E (.ref CE) none H')
structure Stg (H:Hp) (C p dx:Addr) (Hc:Hp) (fs:List (Str×V)) (xs:List (Addr×HO)):Prop where
 ob:Hc p=some (.ins C dx fs)
 is:∀ x∈xs,Hc x.1=some x.2∧H x.1=none
 nd:(p :: xs.map Prod.fst).Nodup
 kp:∀ b o,H b=some o→b≠p→Hc b=some o
theorem Stg.new {H:Hp} {C p dx:Addr} {Hc:Hp} {fs:List (Str×V)} {xs:List (Addr×HO)} (S:Stg H C p dx Hc fs xs) {l:Addr} (hl:Hc l=none) (o:HO):Stg H C p dx (upd Hc l o) fs ((l,o) :: xs):=by
 have hp:p≠l:=ne_of_none S.ob hl
 have hn:H l=none:=by
  cases hh:H l with
  | none=>rfl
  | some u=>rw [S.kp l u hh (Ne.symm hp)] at hl;cases hl
 have hx:l∉xs.map Prod.fst:=fun z=>by
  obtain ⟨x,hx,rfl⟩:=List.mem_map.mp z
  rw [(S.is x hx).1] at hl;cases hl
 have nd:=List.nodup_cons.mp S.nd
 refine ⟨by rw [upd_ne hp];exact S.ob,fun x hx'=>?_,?_,fun b u e hb=>?_⟩
 ·rcases List.mem_cons.mp hx' with rfl | hx'
  ·exact ⟨upd_same,hn⟩
  ·refine ⟨?_,(S.is x hx').2⟩
   rw [upd_ne (fun z=>hx (List.mem_map.mpr ⟨x,hx',z⟩))];exact (S.is x hx').1
 ·rw [List.map_cons]
  refine List.nodup_cons.mpr ⟨fun z=>?_,List.nodup_cons.mpr ⟨hx,nd.2⟩⟩
  rcases List.mem_cons.mp z with z | z
  ·exact hp z
  ·exact nd.1 z
 ·rw [upd_ne (ne_of_none e hn)];exact S.kp b u e hb
theorem Stg.put {H:Hp} {C p dx:Addr} {Hc:Hp} {fs:List (Str×V)} {xs:List (Addr×HO)} (S:Stg H C p dx Hc fs xs) (fs':List (Str×V)):Stg H C p dx (upd Hc p (.ins C dx fs')) fs' xs:=by
 have nd:=List.nodup_cons.mp S.nd
 refine ⟨upd_same,fun x hx=>?_,S.nd,fun b u e hb=>by rw [upd_ne hb];exact S.kp b u e hb⟩
 rw [upd_ne (fun z=>nd.1 (List.mem_map.mpr ⟨x,hx,z⟩))];exact S.is x hx
theorem Stg.none {H:Hp} {C p dx:Addr} {Hc:Hp} {fs:List (Str×V)} {xs:List (Addr×HO)} (S:Stg H C p dx Hc fs xs) {b:Addr} (h:b∈xs.map Prod.fst):H b=Option.none:=by
 obtain ⟨x,hx,rfl⟩:=List.mem_map.mp h
 exact (S.is x hx).2
theorem ok_Learner_init (T:Txt K mg t):FnOk P w K mg base (CXr P w) 4 t.f_Learner_init t.fd_Learner_init ["self","doors"] (sp_Learner_init t.C_Learner t.C_Book t.C_BadHouse):=by
 refine T.F_Learner_init.okX sc_Learner_init (fun vs H Q E h=>?_) (fun cdv A outer s H vs Q E hr h=>?_)
 ·obtain ⟨p,dx,d,rfl,_⟩:=h
  rfl
 ·obtain ⟨p,dx,d,rfl,hp,hdl,hdu,q,qe⟩:=h
  refine ⟨_,pss_cons (ps_fldK K (pv 0) (pe_make T.mk_Book (ok_Book_init T) (hr.mono (by decide)) rfl T.mg_Book (b_Book_init T) .nil xp_def.pass (pa_cons (pv 1) (pa_nil))) rfl)
 (pss_cons (ps_fldK K (pv 0) (pv 1) rfl)
 (pss_cons (ps_fldK K (pv 0) (pe_lst (pa_nil)) rfl)
 (pss_cons (ps_fldK K (pv 0) (pe_lst (pa_cons (pe_lst (pa_nil)) (pa_nil))) rfl)
 (pss_cons (ps_fldK K (pv 0) (pe_lst (pa_nil)) rfl)
 (pss_cons (ps_fldK K (pv 0) (pe_lst (pa_nil)) rfl)
 (pss_cons (ps_fldK K (pv 0) (pe_int) rfl)
 (pss_one (ps_expr (pe_meth (pv 0) T.cl_Learner T.me_Learner_add_head (ok_Learner_add_head T) (hr.mono (by decide)) (b_Learner_add_head T) .nil pass0 (pa_cons (pe_lst (pa_nil)) (pa_nil))))))))))),?_⟩
  walk_at "w";intro bk bdx n1 n2 n3
  have sm:Same H (upd (upd H bdx (.own bk)) bk (.ins t.C_Book bdx [])):=(Same.upd_new n2).trans (Same.upd_new (by rw [upd_ne (Ne.symm n3)];exact n1))
  refine ⟨bk,bdx,d,rfl,upd_same,hdl,hdu,fun hd H1 nb B1 keep1 new1=>⟨rfl,?_⟩,fun z=>qe z _ sm⟩
  obtain ⟨hd1,hd6⟩:=hd
  replace q:=q ⟨hd1,hd6⟩
  have s1:Same H H1:=fun b o e=>keep1 b o (sm b o e) (ne_of_none e n1)
  have hnb:H nb=none:=sm.free new1
  have hbk:H bk=none:=n1
  obtain ⟨bx,hb⟩:=B1.ob
  have S0:Stg H t.C_Learner p dx H1 [] [(nb,.dT (([]:Bk).map bkv)),(bk,.ins t.C_Book bx (bkf d nb))]:=by
   refine ⟨s1 _ _ hp,fun x hx=>?_,?_,fun b o e _=>s1 b o e⟩
   ·rcases List.mem_cons.mp hx with rfl | hx
    ·exact ⟨B1.noted,hnb⟩
    ·rw [List.mem_singleton.mp hx];exact ⟨hb,hbk⟩
   ·have h1:p≠nb:=ne_of_none hp hnb
    have h2:p≠bk:=ne_of_none hp hbk
    have h3:nb≠bk:=Ne.symm (ne_of hb B1.noted (fun z=>nomatch z))
    simp [h1,h2,h3]
  clear keep1 new1 sm
  have hlen:∀ {k:Nat} {fs:List (Str×V)} (f:Str) (v:V),fs.length≤k→(putF f v fs).length≤k+1:=fun f v h=>Nat.le_trans (length_putF f v _) (by omega)
  have z0:([]:List (Str×V)).length≤0:=Nat.le_refl _
  walk_at "w";refine ⟨p,_,dx,_,rfl,S0.ob,T.cl_Learner,T.na_Learner_book,(by show 0 < 1000;decide),?_⟩
  have S1:=S0.put (putF "book" (.ref bk) [])
  have z1:=hlen "book" (.ref bk) z0
  generalize upd H1 p _=H2 at S1 ⊢
  walk_at "w";refine ⟨p,_,dx,_,rfl,S1.ob,T.cl_Learner,T.na_Learner_doors,by omega,?_⟩
  have S2:=S1.put (putF "doors" (.int d) (putF "book" (.ref bk) []))
  have z2:=hlen "doors" (.int d) z1
  generalize upd H2 p _=H3 at S2 ⊢
  walk_at "w";refine ⟨Nat.zero_le _,fun ha hha=>?_⟩
  have S3:=S2.new hha (.lst [])
  generalize upd H3 ha _=H4 at S3 ⊢
  walk_at "w";refine ⟨p,_,dx,_,rfl,S3.ob,T.cl_Learner,T.na_Learner_heads,by omega,?_⟩
  have S4:=S3.put (putF "heads" (.ref ha) (putF "doors" (.int d) (putF "book" (.ref bk) [])))
  have z4:=hlen "heads" (.ref ha) z2
  generalize upd H4 p _=H5 at S4 ⊢
  walk_at "w";refine ⟨Nat.zero_le _,fun em hem=>?_⟩
  have S5:=S4.new hem (.lst [])
  generalize upd H5 em _=H6 at S5 ⊢
  walk_at "w";refine ⟨by show 1≤sizeLine;decide,fun ta hta=>?_⟩
  have S6:=S5.new hta (.lst [.ref em])
  generalize upd H6 ta _=H7 at S6 ⊢
  walk_at "w";refine ⟨p,_,dx,_,rfl,S6.ob,T.cl_Learner,T.na_Learner_tails,by omega,?_⟩
  have S7:=S6.put (putF "tails" (.ref ta) (putF "heads" (.ref ha) (putF "doors" (.int d) (putF "book" (.ref bk) []))))
  have z7:=hlen "tails" (.ref ta) z4
  generalize upd H7 p _=H8 at S7 ⊢
  walk_at "w";refine ⟨Nat.zero_le _,fun li hli=>?_⟩
  have S8:=S7.new hli (.lst [])
  generalize upd H8 li _=H9 at S8 ⊢
  walk_at "w";refine ⟨p,_,dx,_,rfl,S8.ob,T.cl_Learner,T.na_Learner_lines,by omega,?_⟩
  have S9:=S8.put (putF "lines" (.ref li) (putF "tails" (.ref ta) (putF "heads" (.ref ha) (putF "doors" (.int d) (putF "book" (.ref bk) [])))))
  have z9:=hlen "lines" (.ref li) z7
  generalize upd H9 p _=H10 at S9 ⊢
  walk_at "w";refine ⟨Nat.zero_le _,fun ro hro=>?_⟩
  have S10:=S9.new hro (.lst [])
  generalize upd H10 ro _=H11 at S10 ⊢
  walk_at "w";refine ⟨p,_,dx,_,rfl,S10.ob,T.cl_Learner,T.na_Learner_rows,by omega,?_⟩
  have S11:=S10.put (putF "rows" (.ref ro) (putF "lines" (.ref li) (putF "tails" (.ref ta) (putF "heads" (.ref ha) (putF "doors" (.int d) (putF "book" (.ref bk) []))))))
  have z11:=hlen "rows" (.ref ro) z9
  generalize upd H11 p _=H12 at S11 ⊢
  walk_at "w";refine ⟨p,_,dx,_,rfl,S11.ob,T.cl_Learner,T.na_Learner_filled,by omega,?_⟩
  have S12:=S11.put (putF "filled" (.int 0) (putF "rows" (.ref ro) (putF "lines" (.ref li) (putF "tails" (.ref ta) (putF "heads" (.ref ha) (putF "doors" (.int d) (putF "book" (.ref bk) [])))))))
  have z12:=hlen "filled" (.int 0) z11
  generalize upd H12 p _=H13 at S12 ⊢
  have F:LFs (putF "filled" (.int 0) (putF "rows" (.ref ro) (putF "lines" (.ref li) (putF "tails" (.ref ta) (putF "heads" (.ref ha) (putF "doors" (.int d) (putF "book" (.ref bk) []))))))) d ⟨bk,nb,ha,ta,li,ro,[],[em],[],[]⟩ 0:=by
   have s (f g:Str) (h:¬ g=f) (v:V) (fs:List (Str×V)):(putF f v fs).lookup g=fs.lookup g:=by rw [lookup_putF,if_neg h]
   have e (f:Str) (v:V) (fs:List (Str×V)):(putF f v fs).lookup f=some v:=by rw [lookup_putF,if_pos rfl]
   refine ⟨?_,?_,?_,?_,?_,?_,?_,fun m hm=>?_,by omega⟩
   ·rw [s _ _ (by decide +kernel),s _ _ (by decide +kernel),s _ _ (by decide +kernel),s _ _ (by decide +kernel),s _ _ (by decide +kernel),s _ _ (by decide +kernel),e]
   ·rw [s _ _ (by decide +kernel),s _ _ (by decide +kernel),s _ _ (by decide +kernel),s _ _ (by decide +kernel),s _ _ (by decide +kernel),e]
   ·rw [s _ _ (by decide +kernel),s _ _ (by decide +kernel),s _ _ (by decide +kernel),s _ _ (by decide +kernel),e]
   ·rw [s _ _ (by decide +kernel),s _ _ (by decide +kernel),s _ _ (by decide +kernel),e]
   ·rw [s _ _ (by decide +kernel),s _ _ (by decide +kernel),e]
   ·rw [s _ _ (by decide +kernel),e]
   ·rw [e];rfl
   ·simp only [List.mem_cons,List.not_mem_nil,or_false,not_or] at hm
    obtain ⟨m1,m2,m3,m4,m5,m6,m7⟩:=hm
    rw [s _ _ m7,s _ _ m6,s _ _ m5,s _ _ m4,s _ _ m3,s _ _ m2,s _ _ m1];rfl
  have X12:=S12.is
  have N12:=S12.nd
  simp only [List.map_cons,List.map_nil,List.nodup_cons,List.mem_cons,List.not_mem_nil,or_false,not_or] at N12
  obtain ⟨⟨a1,a2,a3,a4,a5,a6,a7⟩,⟨b2,b3,b4,b5,b6,b7⟩,⟨c3,c4,c5,c6,c7⟩,⟨d4,d5,d6,d7⟩,⟨e5,e6,e7⟩,⟨f6,f7⟩,g7,_⟩:=N12
  have lr:LrnAt t.C_Learner t.C_Book H13 p d ⟨bk,nb,ha,ta,li,ro,[],[em],[],[]⟩ [] [] [[]] [] 0:=by
   refine ⟨⟨dx,_,S12.ob,F⟩,⟨⟨bx,(X12 (bk,_) (by simp)).1⟩,(X12 (nb,_) (by simp)).1,by simp⟩,(X12 (ha,_) (by simp)).1,⟨rfl,fun i b v h1 h2=>by simp at h1⟩,(X12 (ta,_) (by simp)).1,⟨rfl,fun i b v h1 h2=>?_⟩,(X12 (li,_) (by simp)).1,⟨rfl,fun i b v h1 h2=>by simp at h1⟩,(X12 (ro,_) (by simp)).1,⟨rfl,fun i b v h1 h2=>by simp at h1⟩,?_,fun b hb=>?_⟩
   ·cases i with
    | zero=>simp at h1 h2;subst h1 h2;exact (X12 (em,_) (by simp)).1
    | succ i=>simp at h1
   ·simp only [mutL,List.nodup_cons,List.mem_cons,List.not_mem_nil,or_false,not_or]
    exact ⟨⟨a7,a6,a5,a3,a2,a1⟩,⟨Ne.symm g7,Ne.symm f7,Ne.symm d7,Ne.symm c7,Ne.symm b7⟩,⟨Ne.symm f6,Ne.symm d6,Ne.symm c6,Ne.symm b6⟩,⟨Ne.symm d5,Ne.symm c5,Ne.symm b5⟩,⟨Ne.symm c3,Ne.symm b3⟩,Ne.symm b2,by simp,by simp⟩
   ·have hb:b=em:=by simpa [wdsL] using hb
    subst hb
    simp only [mutL,List.mem_cons,List.not_mem_nil,or_false,not_or]
    exact ⟨Ne.symm a4,e7,e6,e5,Ne.symm d4,Ne.symm c4,Ne.symm b4⟩
  walk_at "w";refine ⟨p,dx,_,rfl,S12.ob,F.no _ (by decide +kernel),?_⟩
  walk_at "w";refine ⟨Nat.zero_le _,fun e2 he2=>?_⟩
  have S13:=S12.new he2 (.lst [])
  have s13:Same H13 (upd H13 e2 (.lst [])):=Same.upd_new he2
  have nm:=lr.notOwn he2
  have eH:H e2=none:=(S13.is (e2,.lst []) List.mem_cons_self).2
  have e13:(upd H13 e2 (.lst [])) e2=some (.lst (([]:List Int).map V.int)):=upd_same
  have l13:=lr.same s13
  generalize upd H13 e2 (.lst [])=H14 at S13 s13 e13 l13 ⊢
  walk_at "w";refine ⟨p,d,_,[],[],[[]],[],0,e2,[],rfl,l13,e13,fun z=>nm (own_mut z),by omega,hd6,by simp,by simp,rfl,fun H' L' lr' st=>?_⟩
  have hn:∀ b,b∈ownL p ⟨bk,nb,ha,ta,li,ro,[],[em],[],[]⟩→b≠p→H b=none:=fun b hb hbp=>by
   have hb:b=p∨b=bk∨b=nb∨b=ha∨b=ta∨b=li∨b=ro∨b=em:=by simpa [ownL,mutL,wdsL] using hb
   rcases hb with hb | hb | hb | hb | hb | hb | hb | hb
   ·exact absurd hb hbp
   ·rw [hb];exact S12.none (by simp)
   ·rw [hb];exact S12.none (by simp)
   ·rw [hb];exact S12.none (by simp)
   ·rw [hb];exact S12.none (by simp)
   ·rw [hb];exact S12.none (by simp)
   ·rw [hb];exact S12.none (by simp)
   ·rw [hb];exact S12.none (by simp)
  walk_at "w";refine q H' L' lr' (fun b o e hb=>?_) (fun b hb hbp=>?_)
  ·refine st.kp b o (fun z=>?_) (S13.kp b o e hb)
   rw [hn b (own_mut z) hb] at e;cases e
  ·rcases st.own b hb with h | h | h
   ·exact hn b h hbp
   ·rw [h];exact eH
   ·cases hh:H b with
    | none=>rfl
    | some o=>rw [S13.kp b o hh hbp] at h;cases h
theorem sc_Learner_gap:FnScope ["self","line","row","word","lit"] ["self","line","row"] (defScope s_Learner_gap):=⟨rfl,rfl,rfl,by decide +kernel,rfl,by decide +kernel,by decide +kernel⟩
theorem b_Learner_gap (T:Txt K mg t):Binds K t.fd_Learner_gap ["self","line","row"] []:=T.F_Learner_gap.binds fun _ _ _ _ _ _ us hl=>by obtain ⟨_,_,_,rfl⟩:=len_3 hl;rfl
def RowPre (kn:Bk) (tails:List (List Int)) (l:List Int) (r:List Bool):Prop:=r.length≤tails.length∧r.map some=(tails.take r.length).map fun t=>saidO kn (l++t)
def sp_Learner_gap (K:PySem.W.Frag) (C CB:Addr):Sp:=fun vs H Q _=>∃ (p:Addr) (d:Int) (L:LA) (kn:Bk) (heads tails:List (List Int)) (rows:List (List Bool)) (f k:Nat) (la ra:Addr) (l:List Int) (r:List Bool),vs=[.ref p,.ref la,.ref ra]∧LrnAt C CB H p d L kn heads tails rows f ∧
 H la=some (.lst (l.map V.int))∧la∉mutL p L∧L.rA[k]?=some ra∧rows[k]?=some r∧RowPre kn tails l r∧Small heads tails kn∧l.length≤1000 ∧
 (∀ H',gapOf kn tails l=none→LrnAt C CB H' p d L kn heads tails (rows.set k (rowOf kn tails l)) f→LStep p L L H H'→Q .non H') ∧
 (∀ H' w r' a,gapOf kn tails l=some w→RowPre kn tails l r'→LrnAt C CB H' p d L kn heads tails (rows.set k r') f→LStep p L L H H'→H a=none→H' a=some (.lst (w.map V.int))→Q (.ref a) H')
theorem ok_Learner_gap (T:Txt K mg t):FnOk P w K mg base CX0 1 t.f_Learner_gap t.fd_Learner_gap ["self","line","row"] (sp_Learner_gap K t.C_Learner t.C_Book):=by
 refine T.F_Learner_gap.ok sc_Learner_gap (fun vs H Q E h=>?_) (fun cdv A outer s H vs Q E hr h=>?_)
 ·obtain ⟨p,d,L,kn,heads,tails,rows,f,k,la,ra,l,r,rfl,_⟩:=h
  rfl
 ·obtain ⟨p,d,L,kn,heads,tails,rows,f,k,la,ra,l,r,rfl,lr,hla,nla,hra,hrk,hpre,sm,hll,q1,q2⟩:=h
  refine ⟨_,pss_cons (ps_while PassesOwn.never (pt_cmpR op_lt (pe_callB (call_len_seqK K) rfl T.m_len PySem.boot_len (pa_cons (pv 2) (pa_nil))) (pe_callB (call_len_seqK K) rfl T.m_len PySem.boot_len (pa_cons (pe_fldK K (pv 0) rfl) (pa_nil))) (nomark _))
 (pss_cons (ps_set (i:=3) sc_Learner_gap.nd rfl (Or.inl rfl) (pe_op op_cat (pv 1) (pe_ix (ix_listK K) (pe_fldK K (pv 0) rfl) (pe_callB (call_len_seqK K) rfl T.m_len PySem.boot_len (pa_cons (pv 2) (pa_nil))) (fun _ _=>rfl))))
 (pss_cons (ps_set (i:=4) sc_Learner_gap.nd rfl (Or.inl rfl) (pe_dget1 hr.units1 (pe_fldK K (pe_fldK K (pv 0) rfl) rfl) (pe_callTy (call_tuple_ofK K) rfl T.m_tuple boot_tuple (pa_cons (pv 3) (pa_nil))) ⟨rfl,rfl,rfl,rfl⟩))
 (pss_cons (ps_if (pt_cmpR op_isN (pv 4) (pe_non) (nomark _))
 (pss_one (ps_ret (pv 3)))
 (pss_nil))
 (pss_one (ps_expr (pe_bmK K PySem.F.plainAttrs_list PySem.F.slot_list_append PySem.F.type_list_append mt_append (pv 2) (pa_cons (pv 4) (pa_nil)))))))))
 (pss_one (ps_ret (pe_non))),?_⟩
  walk_at "w";have hrs:rows.set k r=rows:=by
   obtain ⟨h1,h2⟩:=List.getElem?_eq_some_iff.mp hrk
   rw [← h2];exact List.set_getElem_self h1
  have hkl:k < rows.length:=(List.getElem?_eq_some_iff.mp hrk).1
  refine ⟨fun m σ H'=>∃ r',RowPre kn tails l r'∧m=tails.length - r'.length∧LrnAt t.C_Learner t.C_Book H' p d L kn heads tails (rows.set k r') f∧LStep p L L H H'∧∃ k3 k4,σ=[some (.ref p),some (.ref la),some (.ref ra),k3,k4],⟨_,r,hpre,rfl,by rw [hrs];exact lr,.same (Same.refl _),_,_,rfl⟩,?_⟩
  rintro m σ H1 ⟨r',hp',rfl,l1,st1,k3,k4,rfl⟩
  obtain ⟨dx,fs,ho,hf⟩:=l1.ob
  have hra1:H1 ra=some (.lst (r'.map V.bl)):=l1.rww.row k ra r' hra (List.getElem?_set_self hkl)
  have hla1:H1 la=some (.lst (l.map V.int)):=st1.kp _ _ nla hla
  have etl:(L.tA.map V.ref).length=tails.length:=by rw [List.length_map,l1.tlw.len]
  walk_at "w";refine ⟨ra,_,rfl,.inl (SqL.of hra1),?_⟩
  walk_at "w";refine r_fld (a:=0) ?_
  walk_at "w";refine ⟨p,_,dx,_,_,rfl,ho,T.cl_Learner,T.na_Learner_tails,hf.tails,?_⟩
  walk_at "w";refine ⟨_,_,rfl,.inl (SqL.of l1.tls),?_⟩
  rw [etl,List.length_map]
  walk_at "w";refine r_ite (fun hc=>?_) (fun hc=>?_)
  ·have hlt:r'.length < tails.length:=by simpa using hc
   have ht:=List.getElem?_eq_getElem hlt
   obtain ⟨ta,ta1,ta2,ta3⟩:=l1.tlw.get ht
   have htw:=sm.tw _ (List.getElem_mem hlt)
   generalize tails[r'.length]=tw at ht ta3 htw
   refine ⟨fun σ' H'=>∃ r2,r2.length=r'.length+1∧RowPre kn tails l r2∧LrnAt t.C_Learner t.C_Book H' p d L kn heads tails (rows.set k r2) f∧LStep p L L H H'∧∃ k3 k4,σ'=[some (.ref p),some (.ref la),some (.ref ra),k3,k4],fun σ' H' ⟨r2,e,a1,a2,a3,a4⟩=>⟨tails.length - r2.length,by omega,r2,a1,rfl,a2,a3,a4⟩,?_⟩
   walk_at "w";refine r_fld (a:=0) ?_
   walk_at "w";refine ⟨p,_,dx,_,_,rfl,ho,T.cl_Learner,T.na_Learner_tails,hf.tails,?_⟩
   walk_at "w";refine ⟨ra,_,rfl,.inl (SqL.of hra1),?_⟩
   rw [List.length_map]
   refine r_ixL (SqL.of l1.tls) (atI_nat (j:=r'.length) ta2) ?_
   walk_at "w";refine ⟨la,ta,_,_,rfl,rfl,hla1,ta3,Nat.le_of_lt (big6 (by rw [List.length_map,List.length_map];omega)),fun wa hwa=>?_⟩
   rw [← List.map_append]
   have s2:Same H1 (upd H1 wa (.lst ((l++tw).map V.int))):=Same.upd_new hwa
   have wa2:(upd H1 wa (.lst ((l++tw).map V.int))) wa=some (.lst ((l++tw).map V.int)):=upd_same
   generalize upd H1 wa (.lst ((l++tw).map V.int))=H2 at s2 wa2 ⊢
   have l2:=l1.same s2
   obtain ⟨bx,hb⟩:=l2.book.ob
   walk_at "w";refine r_fld (a:=0) ?_
   walk_at "w";refine r_fld (a:=0) ?_
   walk_at "w";refine ⟨p,_,dx,_,_,rfl,s2 _ _ ho,T.cl_Learner,T.na_Learner_book,hf.book,?_⟩
   refine ⟨_,_,bx,_,_,rfl,hb,T.cl_Book,T.na_Book_noted,bkf_noted _ _,?_⟩
   refine ⟨L.nb,rfl,.inr ⟨_,.inl l2.book.noted⟩,?_⟩
   walk_at "w";refine ⟨wa,_,rfl,.inl ⟨SqL.of wa2,fun tp htp=>?_⟩⟩
   have s3:Same H2 (upd H2 tp (.tup ((l++tw).map V.int))):=Same.upd_new htp
   have tp3:(upd H2 tp (.tup ((l++tw).map V.int))) tp=some (.tup (((l++tw).map (Sum.inl:Int→Key)).map kV)):=by rw [upd_same,kv_inl]
   generalize upd H2 tp (.tup ((l++tw).map V.int))=H3 at s3 tp3 ⊢
   have l3:=l2.same s3
   refine ⟨_,DGet.t (k:=(l++tw).map Sum.inl) l3.book.noted tp3,?_⟩
   rw [valV_bkv]
   have st3:LStep p L L H H3:=st1.trans (.same (s2.trans s3))
   walk_at "w";refine ⟨rfl,?_⟩
   walk_at "w";cases hs:saidO kn (l++tw) with
   | none =>
    refine r_iteP (by simp) ?_
    walk_at "w";refine q2 _ _ _ wa (gap_at hp'.2 ht hs) hp' l3 st3 ?_ (s3 _ _ wa2)
    cases hh:H wa with
    | none=>rfl
    | some o =>
     have:wa∉mutL p L:=fun z=>l1.notOwn hwa (own_mut z)
     rw [st1.kp _ _ this hh] at hwa;cases hwa
   | some b =>
    refine r_iteN (by simp) ?_
    walk_at "w";have hra3:H3 ra=some (.lst (r'.map V.bl)):=s3 _ _ (s2 _ _ hra1)
    refine ⟨.inl ⟨rfl,_,SqL.of hra3⟩,?_⟩
    walk_at "w";refine ⟨ra,_,_,rfl,rfl,hra3,big6 (by rw [List.length_map];have:=sm.ts;omega),?_⟩
    obtain ⟨m1,m2⟩:=row_more hp'.2 ht hs
    obtain ⟨l4,st4⟩:=l3.setR hra (r'++[b])
    rw [List.set_set] at l4
    rw [List.map_append] at l4 st4
    exact ⟨r'++[b],by simp,⟨m1,m2⟩,l4,st3.trans st4,_,_,rfl⟩
  ·have hge:r'.length=tails.length:=by
    have:=hp'.1
    have hc':¬ r'.length < tails.length:=by simpa using hc
    omega
   obtain ⟨g1,g2⟩:=row_end hp'.2 hge
   walk_at "w";exact q1 _ g1 (by rw [← g2];exact l1) st1
theorem sc_Learner_question:FnScope ["self","word"] ["self"] (defScope s_Learner_question):=⟨rfl,rfl,rfl,by decide +kernel,rfl,by decide +kernel,by decide +kernel⟩
theorem b_Learner_question (T:Txt K mg t):Binds K t.fd_Learner_question ["self"] []:=T.F_Learner_question.binds fun _ _ _ _ _ _ us hl=>by obtain ⟨_,rfl⟩:=len_1 hl;rfl
def sp_Learner_question (K:PySem.W.Frag) (C CB:Addr):Sp:=fun vs H Q _=>∃ (p:Addr) (d:Int) (L:LA) (kn:Bk) (heads tails:List (List Int)) (rows:List (List Bool)) (f:Nat),vs=[.ref p]∧LrnAt C CB H p d L kn heads tails rows f∧RowsOk d kn heads tails rows f∧Small heads tails kn∧(∀ l∈linesOf d heads,l.length≤1000) ∧
 (nextQ d kn heads tails=none→∀ H' rows',LrnAt C CB H' p d L kn heads tails rows' rows'.length→RowsOk d kn heads tails rows' rows'.length→LStep p L L H H'→Q .non H') ∧
 (∀ w,nextQ d kn heads tails=some w→∀ H' rows' f' a,LrnAt C CB H' p d L kn heads tails rows' f'→RowsOk d kn heads tails rows' f'→LStep p L L H H'→H a=none→H' a=some (.lst (w.map V.int))→Q (.ref a) H')
theorem ok_Learner_question (T:Txt K mg t):FnOk P w K mg base CX0 2 t.f_Learner_question t.fd_Learner_question ["self"] (sp_Learner_question K t.C_Learner t.C_Book):=by
 refine T.F_Learner_question.ok sc_Learner_question (fun vs H Q E h=>?_) (fun cdv A outer s H vs Q E hr h=>?_)
 ·obtain ⟨p,d,L,kn,heads,tails,rows,f,rfl,_⟩:=h
  rfl
 ·obtain ⟨p,d,L,kn,heads,tails,rows,f,rfl,lr,R,sm,hll,q1,q2⟩:=h
  refine ⟨_,pss_cons (ps_while PassesOwn.never (pt_cmpR op_lt (pe_fldK K (pv 0) rfl) (pe_callB (call_len_seqK K) rfl T.m_len PySem.boot_len (pa_cons (pe_fldK K (pv 0) rfl) (pa_nil))) (nomark _))
 (pss_cons (ps_set (i:=1) sc_Learner_question.nd rfl (Or.inl rfl) (pe_meth (pv 0) T.cl_Learner T.me_Learner_gap (ok_Learner_gap T) (hr.mono (by decide)) (b_Learner_gap T) .nil pass0 (pa_cons (pe_ix (ix_listK K) (pe_fldK K (pv 0) rfl) (pe_fldK K (pv 0) rfl) (fun _ _=>rfl)) (pa_cons (pe_ix (ix_listK K) (pe_fldK K (pv 0) rfl) (pe_fldK K (pv 0) rfl) (fun _ _=>rfl)) (pa_nil)))))
 (pss_cons (ps_if (pt_cmpR op_notN (pv 1) (pe_non) (nomark _))
 (pss_one (ps_ret (pv 1)))
 (pss_nil))
 (pss_one (ps_fldaugK K (pv 0) (pe_int) in_add)))))
 (pss_one (ps_ret (pe_non))),?_⟩
  walk_at "w";refine ⟨fun m σ H'=>∃ rows' f',m=rows'.length - f'∧LrnAt t.C_Learner t.C_Book H' p d L kn heads tails rows' f'∧RowsOk d kn heads tails rows' f'∧LStep p L L H H'∧∃ k1,σ=[some (.ref p),k1],⟨_,rows,f,rfl,lr,R,.same (Same.refl _),_,rfl⟩,?_⟩
  rintro m σ H1 ⟨rows',f',rfl,l1,R1,st1,k1,rfl⟩
  obtain ⟨dx,fs,ho,hf⟩:=l1.ob
  have ell:(L.lA.map V.ref).length=rows'.length:=by rw [List.length_map,l1.lnw.len,R1.len]
  walk_at "w";refine ⟨_,rfl,p,_,dx,_,_,rfl,ho,T.cl_Learner,T.na_Learner_filled,hf.filled,?_⟩
  walk_at "w";refine ⟨_,rfl,p,_,dx,_,_,rfl,ho,T.cl_Learner,T.na_Learner_lines,hf.lines,?_⟩
  walk_at "w";refine ⟨_,_,rfl,.inl (SqL.of l1.lns),?_⟩
  rw [ell]
  walk_at "w";refine r_ite (fun hc=>?_) (fun hc=>?_)
  ·have hlt:f' < rows'.length:=by simpa using hc
   have hltl:f' < (linesOf d heads).length:=by rw [← R1.len];exact hlt
   have hr:=List.getElem?_eq_getElem hlt
   have hl:=List.getElem?_eq_getElem hltl
   have hlw:=hll _ (List.getElem_mem hltl)
   generalize rows'[f']=r at hr
   generalize (linesOf d heads)[f']=l at hl hlw
   obtain ⟨la,la1,la2,la3⟩:=l1.lnw.get hl
   obtain ⟨ra,ra1,ra2,ra3⟩:=l1.rww.get hr
   refine ⟨fun σ' H'=>∃ r2,RowsOk d kn heads tails r2 (f'+1)∧LrnAt t.C_Learner t.C_Book H' p d L kn heads tails r2 (f'+1)∧r2.length=rows'.length∧LStep p L L H H'∧∃ k1,σ'=[some (.ref p),k1],fun σ' H' ⟨r2,a1,a2,a3,a4,a5⟩=>⟨r2.length - (f'+1),by omega,r2,f'+1,rfl,a2,a1,a4,a5⟩,?_⟩
   walk_at "w";refine ⟨p,dx,_,rfl,ho,hf.no _ (by decide +kernel),?_⟩
   walk_at "w";refine ⟨_,rfl,p,_,dx,_,_,rfl,ho,T.cl_Learner,T.na_Learner_lines,hf.lines,?_⟩
   walk_at "w";refine ⟨_,rfl,p,_,dx,_,_,rfl,ho,T.cl_Learner,T.na_Learner_filled,hf.filled,?_⟩
   refine r_ixL (SqL.of l1.lns) (atI_nat (j:=f') la2) ?_
   walk_at "w";refine ⟨_,rfl,p,_,dx,_,_,rfl,ho,T.cl_Learner,T.na_Learner_rows,hf.rows,?_⟩
   walk_at "w";refine ⟨_,rfl,p,_,dx,_,_,rfl,ho,T.cl_Learner,T.na_Learner_filled,hf.filled,?_⟩
   refine r_ixL (SqL.of l1.rws) (atI_nat (j:=f') ra2) ?_
   walk_at "w";refine ⟨p,d,L,kn,heads,tails,rows',f',f',la,ra,l,r,rfl,l1,la3,l1.sep la (wd_l (List.mem_of_getElem? la1)),ra1,hr,R1.row f' r l hr hl,sm,hlw,fun H2 hg l2 st2=>?_,fun H2 w r2 wa hg hp2 l2 st2 hwn hwa=>?_⟩
   ·walk_at "w";refine ⟨rfl,?_⟩
    walk_at "w";refine r_iteN rfl ?_
    obtain ⟨dx2,fs2,ho2,hf2⟩:=l2.ob
    walk_at "w";refine ⟨p,_,dx2,_,_,rfl,ho2,T.cl_Learner,T.na_Learner_filled,hf2.filled,?_⟩
    walk_at "w";refine ⟨_,_,rfl,rfl,dx2,fs2,ho2,by have:=hf2.len;omega,?_⟩
    have R2:=R1.set (r:=rowOf kn tails l) hl (by unfold rowOf;rw [List.length_map];exact Nat.le_refl _) (by
     have:=gap_none.mp hg
     unfold rowOf
     rw [List.length_map,List.take_length,List.map_map]
     refine List.map_congr_left fun t ht=>?_
     obtain ⟨b,hb⟩:=this t ht
     show some ((saidO kn (l++t)).getD false)=_
     rw [hb];rfl) (by intro z;omega)
    have R3:=R2.succ (by rw [List.length_set];exact hlt) (fun q hq=>by
     rw [List.getElem?_set_self hlt] at hq;cases hq
     unfold rowOf;rw [List.length_map])
    obtain ⟨l3,st3⟩:=l2.setF (dx:=dx2) (hf2.setF (f'+1))
    refine ⟨_,R3,?_,by rw [List.length_set],st1.trans (st2.trans ?_),_,rfl⟩
    ·exact l3
    ·exact st3
   ·walk_at "w";refine ⟨rfl,?_⟩
    walk_at "w";refine r_iteP rfl ?_
    walk_at "w";have hwH:H wa=none:=by
     cases hh:H wa with
     | none=>rfl
     | some o=>rw [st1.kp wa o (fun z=>l1.notOwn hwn (own_mut z)) hh] at hwn;cases hwn
    exact q2 w (R1.next hl hg) H2 _ f' wa l2 (R1.set hl hp2.1 hp2.2 (by intro z;omega)) (st1.trans st2) hwH hwa
  ·have hge:f'=rows'.length:=by
    have:=R1.fle
    have hc':¬ f' < rows'.length:=by simpa using hc
    omega
   subst hge
   walk_at "w";exact q1 R1.all.1 H1 rows' l1 R1 st1
theorem sc_Learner_heads_by_row:FnScope ["self","numbers","number","row"] ["self"] (defScope s_Learner_heads_by_row):=⟨rfl,rfl,rfl,by decide +kernel,rfl,by decide +kernel,by decide +kernel⟩
theorem b_Learner_heads_by_row (T:Txt K mg t):Binds K t.fd_Learner_heads_by_row ["self"] []:=T.F_Learner_heads_by_row.binds fun _ _ _ _ _ _ us hl=>by obtain ⟨_,rfl⟩:=len_1 hl;rfl
def numF:List (List Bool)→Nat→List (List Bool×V)
 | [],_=>[]
 | r :: rs,i=>(r,.int (i:Int)) :: numF rs (i+1)
theorem numF_len:∀ (rs:List (List Bool)) (i:Nat),(numF rs i).length=rs.length
 | [],_=>rfl
 | r :: rs,i=>by unfold numF;rw [List.length_cons,List.length_cons,numF_len]
theorem numF_snoc:∀ (rs:List (List Bool)) (r:List Bool) (i:Nat),numF (rs++[r]) i=numF rs i++[(r,.int ((i+rs.length:Nat):Int))]
 | [],r,i=>rfl
 | a :: rs,r,i=>by
  show (a,V.int (i:Int)) :: numF (rs++[r]) (i+1)=_
  rw [numF_snoc rs r (i+1)]
  show _=(a,V.int (i:Int)) :: (numF rs (i+1)++_)
  rw [List.length_cons,show i+1+rs.length=i+(rs.length+1) by omega]
theorem valV_numF (r:List Bool):∀ (rs:List (List Bool)) (i:Nat),valV (numF rs i) r=if r∈rs then some (.int ((i+rs.findIdx (fun x=>decide (x=r)):Nat):Int)) else none
 | [],i=>rfl
 | a :: rs,i=>by
  show valV ((a,V.int (i:Int)) :: numF rs (i+1)) r=_
  by_cases e:a=r
  ·rw [valV_pos (p:=(a,V.int (i:Int))) e,List.findIdx_cons]
   simp [e]
  ·rw [valV_neg (p:=(a,V.int (i:Int))) e,valV_numF r rs (i+1),List.findIdx_cons]
   have h:¬ r=a:=fun z=>e z.symm
   simp only [List.mem_cons,h,false_or,decide_eq_false e,cond_false]
   split
   ·congr 3;omega
   ·rfl
theorem valV_numK (kn:Bk) (heads tails:List (List Int)) (l:List Int):valV (numF (headRows kn heads tails) 0) (rowOf kn tails l)=if rowOf kn tails l∈headRows kn heads tails then some (.int (ixR kn heads tails l)) else none:=by
 rw [valV_numF,Nat.zero_add];rfl
def sp_Learner_heads_by_row (P:Program) (w:World) (C CB:Addr):Sp:=fun vs H Q _=>∃ (p:Addr) (d:Int) (L:LA) (kn:Bk) (heads tails:List (List Int)) (rows:List (List Bool)) (f:Nat),vs=[.ref p]∧LrnAt C CB H p d L kn heads tails rows f∧rows=(linesOf d heads).map (rowOf kn tails)∧LI d kn heads tails∧heads.length≤400∧1≤d∧d≤6 ∧
 ∀ H' nb,Same H H'→H nb=none→DG (tbKD P w) H' nb (numF (headRows kn heads tails) 0)→Q (.ref nb) H'
theorem ok_Learner_heads_by_row (T:Txt K mg t):FnOk P w K mg base CX0 1 t.f_Learner_heads_by_row t.fd_Learner_heads_by_row ["self"] (sp_Learner_heads_by_row P w t.C_Learner t.C_Book):=by
 refine T.F_Learner_heads_by_row.ok sc_Learner_heads_by_row (fun vs H Q E h=>?_) (fun cdv A outer s H vs Q E hr h=>?_)
 ·obtain ⟨p,d,L,kn,heads,tails,rows,f,rfl,_⟩:=h
  rfl
 ·obtain ⟨p,d,L,kn,heads,tails,rows,f,rfl,lr,hrows,I,hh4,hd1,hd6,q⟩:=h
  obtain ⟨dx,fs,ho,hf⟩:=lr.ob
  refine ⟨_,pss_cons (ps_set (i:=1) sc_Learner_heads_by_row.nd rfl (Or.inl rfl) (pe_dnewG (tbKD P w)))
 (pss_cons (ps_for PassesOwn.never rfl (pi_enumK K rfl T.m_enumerate (pa_cons (pe_sliceN K (pe_fldK K (pv 0) rfl) (pe_op op_add (pe_fldK K (pv 0) rfl) (pe_int))) (pa_nil))) (pg_tupK K (n:=2) rfl (pgs_cons (pg_name (i:=2) sc_Learner_heads_by_row.nd rfl (Or.inl rfl)) (pgs_cons (pg_name (i:=3) sc_Learner_heads_by_row.nd rfl (Or.inl rfl)) (pgs_nil))))
 (pss_one (ps_gput (tbKD P w) hr.u16 (pv 1) (pe_callTy (call_tuple_ofK K) rfl T.m_tuple boot_tuple (pa_cons (pv 3) (pa_nil))) (pv 2) rfl)))
 (pss_one (ps_ret (pv 1)))),?_⟩
  walk_at "w";intro nb hnb dg0
  have s1:Same H (upd H nb (.ext (DGAt (tbKD P w) nb []))):=Same.upd_new hnb
  generalize upd H nb (.ext (DGAt (tbKD P w) nb []))=H1 at s1 dg0 ⊢
  have l1:=lr.same s1
  walk_at "w";refine ⟨_,rfl,p,_,dx,_,_,rfl,s1 _ _ ho,T.cl_Learner,T.na_Learner_rows,hf.rows,?_⟩
  walk_at "w";refine ⟨_,rfl,p,_,dx,_,_,rfl,s1 _ _ ho,T.cl_Learner,T.na_Learner_doors,hf.doors,?_⟩
  walk_at "w";have hlen:(L.rA.map V.ref).length=heads.length * (d.toNat+1):=by rw [List.length_map,lr.rww.len,hrows,List.length_map,linesOf_len]
  refine ⟨_,_,d.toNat+1,rfl,by congr 1;omega,by omega,SqL.of l1.rws,fun sl hsl=>?_⟩
  haveI:Inhabited V:=⟨.non⟩
  rw [stepV_get (m:=heads.length) (by omega) hlen]
  have hrw:∀ (i:Nat) (h:List Int),heads[i]?=some h→∃ a,(L.rA.map V.ref).getD ((d.toNat+1) * i) default=.ref a∧H1 a=some (.lst ((rowOf kn tails h).map V.bl)):=fun i h hi=>by
   have e1:rows[i * (d.toNat+1)]?=some (rowOf kn tails h):=by rw [hrows,List.getElem?_map,lines_head hi];rfl
   obtain ⟨a,_,a2,a3⟩:=l1.rww.get e1
   exact ⟨a,by rw [Nat.mul_comm,List.getD_eq_getElem?_getD,a2];rfl,a3⟩
  generalize hxs:(List.range heads.length).map (fun k=>(L.rA.map V.ref).getD ((d.toNat+1) * k) default)=xs
  have s2:Same H1 (upd H1 sl (.lst xs)):=Same.upd_new hsl
  have sl2:(upd H1 sl (.lst xs)) sl=some (.lst xs):=upd_same
  have nsn:sl≠nb:=by
   obtain ⟨ys,e,_⟩:=dg0
   exact Ne.symm (ne_of_none e hsl)
  have dg2:=dg0.same s2
  have slH:H sl=none:=s1.free hsl
  generalize upd H1 sl (.lst xs)=H2 at s2 sl2 dg2 ⊢
  have hxl:xs.length=heads.length:=by rw [← hxs];simp
  walk_at "w";refine ⟨sl,rfl,⟨_,SqL.of sl2⟩,?_⟩
  refine for_enum (xs:=xs) (fun i σ H'=>Same H H'∧H' sl=some (.lst xs)∧DG (tbKD P w) H' nb (numF ((headRows kn heads tails).take i) 0)∧∃ k2 k3,σ=[some (.ref p),some (.ref nb),k2,k3]) ⟨s1.trans s2,sl2,dg2,_,_,rfl⟩ (fun i σ H' _ pp=>SqL.of pp.2.1) (fun i x σ H3 tp hx pp htp=>?_) (fun σ H3 pp=>?_)
  ·obtain ⟨s3,sl3,dg3,k2,k3,rfl⟩:=pp
   have hi:i < heads.length:=by rw [← hxl];exact (List.getElem?_eq_some_iff.mp hx).1
   have hhi:=List.getElem?_eq_getElem hi
   obtain ⟨a,ha1,ha2⟩:=hrw i _ hhi
   have ex:x=.ref a:=by
    rw [← hxs,List.getElem?_map,List.getElem?_range hi] at hx
    rw [← ha1];exact (Option.some.inj hx).symm
   subst ex
   have haH:H a=some (.lst ((rowOf kn tails heads[i]).map V.bl)):=by
    have e1:rows[i * (d.toNat+1)]?=some (rowOf kn tails heads[i]):=by rw [hrows,List.getElem?_map,lines_head hhi];rfl
    obtain ⟨a',_,a2,a3⟩:=lr.rww.get e1
    have:a=a':=by
     rw [Nat.mul_comm,List.getD_eq_getElem?_getD,a2] at ha1
     cases ha1;rfl
    rw [this];exact a3
   have hrow:(headRows kn heads tails)[i]?=some (rowOf kn tails heads[i]):=by unfold headRows;rw [List.getElem?_map,hhi];rfl
   have hrl:(headRows kn heads tails).length=heads.length:=by simp [headRows]
   have hne:rowOf kn tails heads[i]∉(headRows kn heads tails).take i:=fun z=>by
    obtain ⟨j,hj⟩:=List.getElem?_of_mem z
    have hji:j < i:=by
     have:=(List.getElem?_eq_some_iff.mp hj).1
     rw [List.length_take] at this;omega
    rw [List.getElem?_take_of_lt hji] at hj
    have hjl:j < heads.length:=by omega
    have e:(headRows kn heads tails)[j]?=some (rowOf kn tails heads[j]):=by unfold headRows;rw [List.getElem?_map,List.getElem?_eq_getElem hjl];rfl
    rw [e] at hj
    exact I.rne hji (List.getElem?_eq_getElem hjl) hhi (Option.some.inj hj)
   generalize rowOf kn tails heads[i]=r at haH hrow hne
   have ntp:∀ b o,H3 b=some o→(upd H3 tp (.tup [.int (i:Int),.ref a])) b=some o:=fun b o e=>Same.upd_new htp b o e
   refine ⟨tp,_,rfl,SqT.of upd_same,rfl,_,_,rfl,?_⟩
   have s4:Same H3 (upd H3 tp (.tup [.int (i:Int),.ref a])):=Same.upd_new htp
   generalize upd H3 tp (.tup [.int (i:Int),.ref a])=H4 at s4 ⊢
   walk_at "w";refine ⟨_,_,rfl,?_⟩
   walk_at "w";refine ⟨rfl,?_⟩
   walk_at "w";refine ⟨a,_,rfl,.inl ⟨SqL.of (s4 _ _ (s3 _ _ haH)),fun kt hkt=>?_⟩⟩
   have s5:Same H4 (upd H4 kt (.tup (r.map V.bl))):=Same.upd_new hkt
   have kt5:(upd H4 kt (.tup (r.map V.bl))) kt=some (.tup (r.map V.bl)):=upd_same
   generalize upd H4 kt (.tup (r.map V.bl))=H5 at s5 kt5 ⊢
   refine ⟨nb,kt,r,_,rfl,rfl,kt5,dg3.same (s4.trans s5),big6 (by rw [numF_len,List.length_take];omega),fun H6 k6 dg6=>?_⟩
   rw [putK_new _ (by rw [valV_numF,if_neg hne])] at dg6
   have nnb:∀ b o,H b=some o→b≠nb:=fun b o e=>ne_of_none e hnb
   refine ⟨fun b o e=>by rw [k6 b (nnb b o e)];exact s5 _ _ (s4 _ _ (s3 _ _ e)),by rw [k6 sl nsn];exact s5 _ _ (s4 _ _ sl3),?_,_,_,rfl⟩
   rw [take_snocT hrow,numF_snoc,List.length_take,hrl,Nat.min_eq_left (by omega),Nat.zero_add]
   exact dg6
  ·obtain ⟨s3,sl3,dg3,k2,k3,rfl⟩:=pp
   rw [hxl,List.take_of_length_le (by simp [headRows])] at dg3
   walk_at "w";exact q H3 nb s3 hnb dg3
theorem sc_Learner_unlike_edge:FnScope ["self","numbers","line","row"] ["self"] (defScope s_Learner_unlike_edge):=⟨rfl,rfl,rfl,by decide +kernel,rfl,by decide +kernel,by decide +kernel⟩
theorem b_Learner_unlike_edge (T:Txt K mg t):Binds K t.fd_Learner_unlike_edge ["self"] []:=T.F_Learner_unlike_edge.binds fun _ _ _ _ _ _ us hl=>by obtain ⟨_,rfl⟩:=len_1 hl;rfl
def sp_Learner_unlike_edge (K:PySem.W.Frag) (C CB:Addr):Sp:=fun vs H Q _=>∃ (p:Addr) (d:Int) (L:LA) (kn:Bk) (heads tails:List (List Int)) (rows:List (List Bool)) (f:Nat),vs=[.ref p]∧LrnAt C CB H p d L kn heads tails rows f∧RowsOk d kn heads tails rows f∧Small heads tails kn∧LI d kn heads tails∧1≤d∧d≤6 ∧
 ((nextQ d kn heads tails≠none∨looseOf d kn heads tails=none)→∀ H' rows' f',LrnAt C CB H' p d L kn heads tails rows' f'→RowsOk d kn heads tails rows' f'→LStep p L L H H'→Q .non H') ∧
 (∀ e,nextQ d kn heads tails=none→looseOf d kn heads tails=some e→∀ H' rows' f' a,LrnAt C CB H' p d L kn heads tails rows' f'→RowsOk d kn heads tails rows' f'→LStep p L L H H'→a∈L.lA→H' a=some (.lst (e.map V.int))→Q (.ref a) H')
theorem ok_Learner_unlike_edge (T:Txt K mg t):FnOk P w K mg base CX0 3 t.f_Learner_unlike_edge t.fd_Learner_unlike_edge ["self"] (sp_Learner_unlike_edge K t.C_Learner t.C_Book):=by
 refine T.F_Learner_unlike_edge.ok sc_Learner_unlike_edge (fun vs H Q E h=>?_) (fun cdv A outer s H vs Q E hr h=>?_)
 ·obtain ⟨p,d,L,kn,heads,tails,rows,f,rfl,_⟩:=h
  rfl
 ·obtain ⟨p,d,L,kn,heads,tails,rows,f,rfl,lr,R,sm,I,hd1,hd6,q1,q2⟩:=h
  obtain ⟨dx,fs,ho,hf⟩:=lr.ob
  refine ⟨_,pss_cons (ps_if (pt_cmpR op_notN (pe_meth0 (pv 0) T.cl_Learner T.me_Learner_question (ok_Learner_question T) (hr.mono (by decide)) (b_Learner_question T) .nil pass0) (pe_non) (nomark _))
 (pss_one (ps_ret (pe_non)))
 (pss_nil))
 (pss_cons (ps_set (i:=1) sc_Learner_unlike_edge.nd rfl (Or.inl rfl) (pe_meth0 (pv 0) T.cl_Learner T.me_Learner_heads_by_row (ok_Learner_heads_by_row T) (hr.mono (by decide)) (b_Learner_heads_by_row T) .nil pass0))
 (pss_cons (ps_for PassesOwn.never rfl (pi_zip K rfl T.m_zip (pa_cons (pe_fldK K (pv 0) rfl) (pa_cons (pe_fldK K (pv 0) rfl) (pa_nil)))) (pg_tupK K (n:=2) rfl (pgs_cons (pg_name (i:=2) sc_Learner_unlike_edge.nd rfl (Or.inl rfl)) (pgs_cons (pg_name (i:=3) sc_Learner_unlike_edge.nd rfl (Or.inl rfl)) (pgs_nil))))
 (pss_one (ps_if (pt_cmp (pc_gnotin (tbKD P w) hr.u16 (pe_callTy (call_tuple_ofK K) rfl T.m_tuple boot_tuple (pa_cons (pv 3) (pa_nil))) (pv 1)))
 (pss_one (ps_ret (pv 2)))
 (pss_nil))))
 (pss_one (ps_ret (pe_non))))),?_⟩
  walk_at "w";refine ⟨p,dx,_,rfl,ho,hf.no _ (by decide +kernel),?_⟩
  refine ⟨p,d,L,kn,heads,tails,rows,f,rfl,lr,R,sm,fun l hl=>by have:=(I.lok hl).2;have:=sm.hs;omega,fun hq H1 rows1 l1 R1 st1=>?_,fun w hq H1 rows1 f1 a l1 R1 st1 _ _=>?_⟩
  ·walk_at "w";refine ⟨rfl,?_⟩
   walk_at "w";refine r_iteN rfl ?_
   obtain ⟨dx1,fs1,ho1,hf1⟩:=l1.ob
   have hrows:=R1.all.2
   walk_at "w";refine ⟨p,dx1,_,rfl,ho1,hf1.no _ (by decide +kernel),?_⟩
   refine ⟨p,d,L,kn,heads,tails,rows1,_,rfl,l1,hrows,I,sm.hs,hd1,hd6,fun H2 nb s2 hnb dg2=>?_⟩
   have l2:=l1.same s2
   have st2:LStep p L L H H2:=st1.trans (.same s2)
   walk_at "w";refine ⟨_,rfl,p,_,dx1,_,_,rfl,s2 _ _ ho1,T.cl_Learner,T.na_Learner_lines,hf1.lines,?_⟩
   walk_at "w";refine ⟨_,rfl,p,_,dx1,_,_,rfl,s2 _ _ ho1,T.cl_Learner,T.na_Learner_rows,hf1.rows,?_⟩
   walk_at "w";refine ⟨_,_,rfl,⟨_,SqL.of l2.lns⟩,⟨_,SqL.of l2.rws⟩,?_⟩
   have hLl:L.lA.length=(linesOf d heads).length:=l2.lnw.len
   have hRl:L.rA.length=(linesOf d heads).length:=by rw [l2.rww.len,R1.len]
   refine for_zip (xs:=L.lA.map V.ref) (ys:=L.rA.map V.ref) (fun i σ H'=>Same H2 H'∧(∀ l∈(linesOf d heads).take i,rowOf kn tails l∈headRows kn heads tails)∧∃ k2 k3,σ=[some (.ref p),some (.ref nb),k2,k3]) ⟨Same.refl _,by simp,_,_,rfl⟩ (by rw [List.length_map,List.length_map,hLl,hRl]) (fun i σ H' _ pp=>⟨SqL.of (pp.1 _ _ l2.lns),SqL.of (pp.1 _ _ l2.rws)⟩) (fun i x y σ H3 tp hx hy pp ht=>?_) (fun σ H3 pp=>?_)
   ·obtain ⟨s3,hall,k2,k3,rfl⟩:=pp
    have hx0:=ref_map_inv hx
    have hy0:=ref_map_inv hy
    clear hx hy
    obtain ⟨la,rfl,hla⟩:=hx0
    obtain ⟨ra,rfl,hra⟩:=hy0
    have hi:i < (linesOf d heads).length:=by rw [← hLl];exact (List.getElem?_eq_some_iff.mp hla).1
    have hl:=List.getElem?_eq_getElem hi
    have hmem:=List.getElem_mem hi
    have hr:rows1[i]?=some (rowOf kn tails (linesOf d heads)[i]):=by rw [hrows,List.getElem?_map,hl];rfl
    generalize (linesOf d heads)[i]=l at hl hr hmem
    have la2:=l2.lnw.row i la l hla hl
    have ra2:=l2.rww.row i ra _ hra hr
    have s4:Same H3 (upd H3 tp (.tup [.ref la,.ref ra])):=Same.upd_new ht
    refine ⟨tp,_,rfl,SqT.of upd_same,rfl,_,_,rfl,?_⟩
    generalize upd H3 tp (.tup [.ref la,.ref ra])=H4 at s4 ⊢
    have s24:=s3.trans s4
    walk_at "w";refine ⟨_,_,rfl,?_⟩
    walk_at "w";refine ⟨rfl,?_⟩
    walk_at "w";refine ⟨ra,_,rfl,.inl ⟨SqL.of (s24 _ _ ra2),fun kt hkt=>?_⟩⟩
    have s5:Same H4 (upd H4 kt (.tup ((rowOf kn tails l).map V.bl))):=Same.upd_new hkt
    have kt5:(upd H4 kt (.tup ((rowOf kn tails l).map V.bl))) kt=some (.tup ((rowOf kn tails l).map V.bl)):=upd_same
    generalize upd H4 kt (.tup ((rowOf kn tails l).map V.bl))=H5 at s5 kt5 ⊢
    have s25:=s24.trans s5
    walk_at "w";refine ⟨nb,kt,rowOf kn tails l,_,rfl,rfl,kt5,dg2.same s25,?_⟩
    rw [valV_numK]
    walk_at "w";by_cases hin:rowOf kn tails l∈headRows kn heads tails
    ·rw [if_pos hin]
     refine r_iteN rfl ?_
     walk_at "w";refine ⟨s25,fun u hu=>?_,_,_,rfl⟩
     rw [take_snocT hl] at hu
     rcases List.mem_append.mp hu with hu | hu
     ·exact hall u hu
     ·rw [List.mem_singleton.mp hu];exact hin
    ·rw [if_neg hin]
     refine r_iteP rfl ?_
     walk_at "w";have hloose:looseOf d kn heads tails=some l:=by
      unfold looseOf
      have e:linesOf d heads=(linesOf d heads).take i++l :: (linesOf d heads).drop (i+1):=by
       conv=>lhs;rw [← List.take_append_drop i (linesOf d heads)]
       rw [List.drop_eq_getElem_cons hi]
       congr 2
       rw [List.getElem?_eq_getElem hi] at hl
       exact Option.some.inj hl
      have h0:((linesOf d heads).take i).find? (fun l=>!decide (rowOf kn tails l∈headRows kn heads tails))=none:=by
       rw [List.find?_eq_none]
       intro u hu
       simpa using hall u hu
      rw [e,List.find?_append,h0,List.find?_cons_of_pos (by simpa using hin)]
      rfl
     exact q2 l hq hloose H5 rows1 _ la (l2.same s25) R1 (st2.trans (.same s25)) (List.mem_of_getElem? hla) (s25 _ _ la2)
   ·obtain ⟨s3,hall,k2,k3,rfl⟩:=pp
    rw [List.length_map,hLl,List.take_length] at hall
    walk_at "w";exact q1 (.inr (loose_none.mpr hall)) H3 rows1 _ (l2.same s3) R1 (st2.trans (.same s3))
  ·walk_at "w";refine ⟨rfl,?_⟩
   walk_at "w";refine r_iteP rfl ?_
   walk_at "w";exact q1 (.inl (by rw [hq];intro z;cases z)) H1 rows1 f1 l1 R1 st1
theorem sc_Learner_add_unlike_edges:FnScope ["self","edge"] ["self"] (defScope s_Learner_add_unlike_edges):=⟨rfl,rfl,rfl,by decide +kernel,rfl,by decide +kernel,by decide +kernel⟩
theorem b_Learner_add_unlike_edges (T:Txt K mg t):Binds K t.fd_Learner_add_unlike_edges ["self"] []:=T.F_Learner_add_unlike_edges.binds fun _ _ _ _ _ _ us hl=>by obtain ⟨_,rfl⟩:=len_1 hl;rfl
def sp_Learner_add_unlike_edges (K:PySem.W.Frag) (C CB:Addr):Sp:=fun vs H Q _=>∃ (p:Addr) (d:Int) (L:LA) (kn:Bk) (heads tails:List (List Int)) (rows:List (List Bool)) (f:Nat),vs=[.ref p]∧LrnAt C CB H p d L kn heads tails rows f∧RowsOk d kn heads tails rows f∧Small heads tails kn∧LI d kn heads tails∧1≤d∧d≤6 ∧
 (∀ hs,LI d kn hs tails→hs.length≤400) ∧
 (∀ H' L' rows' f',LrnAt C CB H' p d L' kn (grow d kn tails heads) tails rows' f'→RowsOk d kn (grow d kn tails heads) tails rows' f'→LI d kn (grow d kn tails heads) tails→(nextQ d kn (grow d kn tails heads) tails≠none∨looseOf d kn (grow d kn tails heads) tails=none)→LStep p L L' H H'→Q .non H')
structure GrSt (C CB:Addr) (H H1:Hp) (p:Addr) (d:Int) (L:LA) (kn:Bk) (heads tails:List (List Int)) (n:Nat) (L1:LA) (hs:List (List Int)) (rows1:List (List Bool)) (f1:Nat):Prop where
 g:grow d kn tails heads=growN d kn tails n hs
 n4:401≤n+hs.length
 I:LI d kn hs tails
 l:LrnAt C CB H1 p d L1 kn hs tails rows1 f1
 R:RowsOk d kn hs tails rows1 f1
 st:LStep p L L1 H H1
def GrEnd (C CB:Addr) (H:Hp) (p:Addr) (d:Int) (L:LA) (kn:Bk) (heads tails:List (List Int)) (v:V) (H1:Hp):Prop:=v=.non∧∃ n L1 hs rows1 f1,GrSt C CB H H1 p d L kn heads tails n L1 hs rows1 f1∧(nextQ d kn hs tails≠none∨looseOf d kn hs tails=none)
def GrEdge (C CB:Addr) (H:Hp) (p:Addr) (d:Int) (L:LA) (kn:Bk) (heads tails:List (List Int)) (m:Nat) (v:V) (H1:Hp):Prop:=∃ a e n L1 hs rows1 f1,GrSt C CB H H1 p d L kn heads tails n L1 hs rows1 f1∧v=.ref a∧m=401 - hs.length∧a∈L1.lA∧H1 a=some (.lst (e.map V.int))∧nextQ d kn hs tails=none∧looseOf d kn hs tails=some e
theorem ok_Learner_add_unlike_edges (T:Txt K mg t):FnOk P w K mg base CX0 4 t.f_Learner_add_unlike_edges t.fd_Learner_add_unlike_edges ["self"] (sp_Learner_add_unlike_edges K t.C_Learner t.C_Book):=by
 refine T.F_Learner_add_unlike_edges.ok sc_Learner_add_unlike_edges (fun vs H Q E h=>?_) (fun cdv A outer s H vs Q E hr h=>?_)
 ·obtain ⟨p,d,L,kn,heads,tails,rows,f,rfl,_⟩:=h
  rfl
 ·obtain ⟨p,d,L,kn,heads,tails,rows,f,rfl,lr,R,sm,I,hd1,hd6,bnd,q⟩:=h
  obtain ⟨dx,fs,ho,hf⟩:=lr.ob
  have smh:∀ hs,LI d kn hs tails→Small hs tails kn:=fun hs Ih=>⟨bnd hs Ih,sm.ts,sm.tw,sm.ks⟩
  have h0:1≤heads.length:=List.length_pos_of_mem I.mem0
  refine ⟨_,pss_cons (ps_join (ps_set (i:=1) sc_Learner_add_unlike_edges.nd rfl (Or.inl rfl) (pe_meth0 (pv 0) T.cl_Learner T.me_Learner_unlike_edge (ok_Learner_unlike_edge T) (hr.mono (by decide)) (b_Learner_unlike_edge T) .nil pass0)))
 (pss_one (ps_while PassesOwn.never (pt_cmpR op_notN (pv 1) (pe_non) (nomark _))
 (pss_cons (ps_expr (pe_meth (pv 0) T.cl_Learner T.me_Learner_add_head (ok_Learner_add_head T) (hr.mono (by decide)) (b_Learner_add_head T) .nil pass0 (pa_cons (pv 1) (pa_nil))))
 (pss_one (ps_join (ps_set (i:=1) sc_Learner_add_unlike_edges.nd rfl (Or.inl rfl) (pe_meth0 (pv 0) T.cl_Learner T.me_Learner_unlike_edge (ok_Learner_unlike_edge T) (hr.mono (by decide)) (b_Learner_unlike_edge T) .nil pass0))))))),?_⟩
  walk_at "w";refine r_join (fun σ' H1=>∃ v,σ'=[some (.ref p),some v]∧(GrEnd t.C_Learner t.C_Book H p d L kn heads tails v H1∨∃ m,GrEdge t.C_Learner t.C_Book H p d L kn heads tails m v H1)) ?_ ?_
  ·walk_at "w";refine ⟨p,dx,_,rfl,ho,hf.no _ (by decide +kernel),?_⟩
   refine ⟨p,d,L,kn,heads,tails,rows,f,rfl,lr,R,sm,I,hd1,hd6,fun hc H1 rows1 f1 l1 R1 st1=>?_,fun e hq hlo H1 rows1 f1 a l1 R1 st1 hal hae=>?_⟩
   ·walk_at "w";exact ⟨.non,rfl,.inl ⟨rfl,400,L,heads,rows1,f1,⟨rfl,by omega,I,l1,R1,st1⟩,hc⟩⟩
   ·walk_at "w";exact ⟨.ref a,rfl,.inr ⟨_,a,e,400,L,heads,rows1,f1,⟨rfl,by omega,I,l1,R1,st1⟩,rfl,rfl,hal,hae,hq,hlo⟩⟩
  rintro σ' H1 ⟨v,rfl,hv⟩
  walk_at "w";refine ⟨fun m σ H1=>∃ v,σ=[some (.ref p),some v]∧((m=0∧GrEnd t.C_Learner t.C_Book H p d L kn heads tails v H1)∨GrEdge t.C_Learner t.C_Book H p d L kn heads tails m v H1),?_,?_⟩
  ·rcases hv with hv | ⟨m,hv⟩
   ·exact ⟨0,v,rfl,.inl ⟨rfl,hv⟩⟩
   ·exact ⟨m,v,rfl,.inr hv⟩
  clear hv
  rintro m σ H2 ⟨v,rfl,hv⟩
  walk_at "w";refine ⟨rfl,?_⟩
  walk_at "w";rcases hv with ⟨_,rfl,n,L1,hs,rows1,f1,G,hc⟩ | ⟨a,e,n,L1,hs,rows1,f1,G,rfl,rfl,hal,hae,hq,hlo⟩
  ·refine r_iteN rfl ?_
   have ee:grow d kn tails heads=hs:=G.g.trans (growN_stop hc n)
   have:=q H2 L1 rows1 f1
   rw [ee] at this
   exact this G.l G.R G.I hc G.st
  ·refine r_iteP rfl ?_
   have Ig:=G.I.grown hq hlo
   have hb:=bnd _ Ig
   rw [List.length_append,List.length_singleton] at hb
   have hn4:=G.n4
   obtain ⟨k,rfl⟩:∃ k,n=k+1:=⟨n - 1,by omega⟩
   refine ⟨fun σ' H3=>∃ v,σ'=[some (.ref p),some v]∧(GrEnd t.C_Learner t.C_Book H p d L kn heads tails v H3∨∃ m',m' < 401 - hs.length∧GrEdge t.C_Learner t.C_Book H p d L kn heads tails m' v H3),?_,?_⟩
   ·rintro σ' H3 ⟨v,rfl,hv⟩
    rcases hv with hv | ⟨m',hm,hv⟩
    ·exact ⟨0,by omega,v,rfl,.inl ⟨rfl,hv⟩⟩
    ·exact ⟨m',hm,v,rfl,.inr hv⟩
   obtain ⟨dx2,fs2,ho2,hf2⟩:=G.l.ob
   have hel:=loose_some hlo
   walk_at "w";refine ⟨p,dx2,_,rfl,ho2,hf2.no _ (by decide +kernel),?_⟩
   walk_at "w";refine ⟨p,d,L1,kn,hs,tails,rows1,f1,a,e,rfl,G.l,hae,G.l.sep a (wd_l hal),by omega,hd6,by omega,by have:=(G.I.lok hel.1).2;omega,G.R.len,fun H3 L3 l3 st3=>?_⟩
   have R3:=G.R.head e
   have st3':LStep p L1 L3 H2 H3:=⟨st3.kp,fun b hb=>by
    rcases st3.own b hb with h | h | h
    ·exact .inl h
    ·exact .inl (by rw [h];exact own_wd (wd_l hal))
    ·exact .inr h,st3.mu⟩
   have stL:=G.st.trans st3'
   have eg:grow d kn tails heads=growN d kn tails k (hs++[e]):=G.g.trans (growN_step hq hlo k)
   have e4:401≤k+(hs++[e]).length:=by rw [List.length_append,List.length_singleton];omega
   obtain ⟨dx3,fs3,ho3,hf3⟩:=l3.ob
   walk_at "w";refine r_join (fun σ' H1=>∃ v,σ'=[some (.ref p),some v]∧(GrEnd t.C_Learner t.C_Book H p d L kn heads tails v H1∨∃ m',m' < 401 - hs.length∧GrEdge t.C_Learner t.C_Book H p d L kn heads tails m' v H1)) ?_ ?_
   ·walk_at "w";refine ⟨p,dx3,_,rfl,ho3,hf3.no _ (by decide +kernel),?_⟩
    refine ⟨p,d,L3,kn,_,tails,_,_,rfl,l3,R3,smh _ Ig,Ig,hd1,hd6,fun hc H4 rows4 f4 l4 R4 st4=>?_,fun e' hq' hlo' H4 rows4 f4 a' l4 R4 st4 hal' hae'=>?_⟩
    ·walk_at "w";exact ⟨.non,rfl,.inl ⟨rfl,k,L3,_,rows4,f4,⟨eg,e4,Ig,l4,R4,stL.trans st4⟩,hc⟩⟩
    ·walk_at "w";exact ⟨.ref a',rfl,.inr ⟨_,by rw [List.length_append,List.length_singleton];omega,a',e',k,L3,_,rows4,f4,⟨eg,e4,Ig,l4,R4,stL.trans st4⟩,rfl,rfl,hal',hae',hq',hlo'⟩⟩
   rintro σ' H4 ⟨v,rfl,hv⟩
   walk_at "w";exact ⟨v,rfl,hv⟩
theorem sc_Learner_answer:FnScope ["self","lit","word"] ["self","lit"] (defScope s_Learner_answer):=⟨rfl,rfl,rfl,by decide +kernel,rfl,by decide +kernel,by decide +kernel⟩
theorem b_Learner_answer (T:Txt K mg t):Binds K t.fd_Learner_answer ["self","lit"] []:=T.F_Learner_answer.binds fun _ _ _ _ _ _ us hl=>by obtain ⟨_,_,rfl⟩:=len_2 hl;rfl
def sp_Learner_answer (K:PySem.W.Frag) (C CB CN:Addr):Sp:=fun vs H Q E=>∃ (p:Addr) (d:Int) (L:LA) (kn:Bk) (heads tails:List (List Int)) (lit:Bool),vs=[.ref p,.bl lit]∧LS C CB H p d L kn heads tails∧Small heads tails kn∧kn.length < 100000∧1≤d∧d≤6 ∧
 (∀ w,nextQ d kn heads tails=some w→(∀ hs,LI d (kn++[(w,lit)]) hs tails→hs.length≤400) ∧
 (∀ H' L',LS C CB H' p d L' (kn++[(w,lit)]) (grow d (kn++[(w,lit)]) tails heads) tails→LStep p L L' H H'→Q .non H')) ∧
 (nextQ d kn heads tails=none→∀ H',LS C CB H' p d L kn heads tails→LStep p L L H H'→E (.ref CN) none H')
theorem ok_Learner_answer (T:Txt K mg t):FnOk P w K mg base (CXr P w) 6 t.f_Learner_answer t.fd_Learner_answer ["self","lit"] (sp_Learner_answer K t.C_Learner t.C_Book t.C_NotAsked):=by
 refine T.F_Learner_answer.okX sc_Learner_answer (fun vs H Q E h=>?_) (fun cdv A outer s H vs Q E hr h=>?_)
 ·obtain ⟨p,d,L,kn,heads,tails,lit,rfl,_⟩:=h
  rfl
 ·obtain ⟨p,d,L,kn,heads,tails,lit,rfl,S,sm,hk,hd1,hd6,qq,qe⟩:=h
  obtain ⟨rows,f,lr,R⟩:=S.ex
  have I:=S.I
  obtain ⟨dx,fs,ho,hf⟩:=lr.ob
  refine ⟨_,pss_cons (ps_set (i:=2) sc_Learner_answer.nd rfl (Or.inl rfl) (pe_meth0 (pv 0) T.cl_Learner T.me_Learner_question (ok_Learner_question T) (hr.mono (by decide)) (b_Learner_question T) .nil pass0))
 (pss_cons (ps_if (pt_cmpR op_isN (pv 2) (pe_non) (nomark _))
 (pss_one (ps_raise xm_def rfl rfl T.mg_NotAsked T.ex_NotAsked.toExcCls (pa_cons (pe_str) (pa_nil))))
 (pss_nil))
 (pss_cons (ps_expr (pe_meth (pe_fldK K (pv 0) rfl) T.cl_Book T.me_Book_note (ok_Book_note T) (hr.mono (by decide)) (b_Book_note T) .nil xp_def.pass (pa_cons (pv 2) (pa_cons (pv 1) (pa_nil)))))
 (pss_one (ps_expr (pe_meth0 (pv 0) T.cl_Learner T.me_Learner_add_unlike_edges (ok_Learner_add_unlike_edges T) (hr.mono (by decide)) (b_Learner_add_unlike_edges T) .nil pass0))))),?_⟩
  walk_at "w";refine ⟨p,dx,_,rfl,ho,hf.no _ (by decide +kernel),?_⟩
  refine ⟨p,d,L,kn,heads,tails,rows,f,rfl,lr,R,sm,I.lines1000 sm.hs,fun hq H1 rows1 l1 R1 st1=>?_,fun wd hq H1 rows1 f1 wa l1 R1 st1 hwn hwa=>?_⟩
  ·walk_at "w";refine ⟨rfl,?_⟩
   walk_at "w";refine r_iteP rfl ?_
   walk_at "w";exact ⟨by show 1≤sizeLine;decide,qe hq H1 ⟨⟨_,_,l1,R1⟩,S.I,S.st⟩ st1⟩
  obtain ⟨bnd,q⟩:=qq wd hq
  obtain ⟨hwo,hno⟩:=I.qok hq
  obtain ⟨dx1,fs1,ho1,hf1⟩:=l1.ob
  obtain ⟨bx,hbk⟩:=l1.book.ob
  walk_at "w";refine ⟨rfl,?_⟩
  walk_at "w";refine r_iteN rfl ?_
  walk_at "w";refine ⟨_,rfl,p,_,dx1,_,_,rfl,ho1,T.cl_Learner,T.na_Learner_book,hf1.book,?_⟩
  refine ⟨L.bk,bx,_,rfl,hbk,bkf_no _ _ (by decide +kernel) (by decide +kernel),?_⟩
  walk_at "w";refine ⟨L.bk,d,L.nb,kn,wa,wd,lit,rfl,l1.book,SqL.of hwa,wok_small hwo hd6,sm.ks,fun _ _ H2 B2 k2=>?_,(fun _ hs=>by rw [hno] at hs;cases hs),(fun _ hs=>by rw [hno] at hs;cases hs),fun nw=>absurd hwo nw⟩
  obtain ⟨l2,st2⟩:=l1.noted B2 k2
  have R2:=R1.note wd lit
  have I2:=I.note lit hq
  obtain ⟨dx2,fs2,ho2,hf2⟩:=l2.ob
  walk_at "w";refine ⟨p,dx2,_,rfl,ho2,hf2.no _ (by decide +kernel),?_⟩
  refine ⟨p,d,L,_,heads,tails,rows1,f1,rfl,l2,R2,⟨sm.hs,sm.ts,sm.tw,by rw [List.length_append,List.length_singleton];omega⟩,I2,hd1,hd6,bnd,fun H3 L3 rows3 f3 l3 R3 I3 c3 st3=>?_⟩
  walk_at "w";exact q H3 L3 ⟨⟨rows3,f3,l3,R3⟩,I3,c3⟩ (st1.trans (st2.trans st3))
theorem sc_Learner_guess:FnScope ["self","numbers","leads","ways","number","first"] ["self"] (defScope s_Learner_guess):=⟨rfl,rfl,rfl,by decide +kernel,rfl,by decide +kernel,by decide +kernel⟩
theorem b_Learner_guess (T:Txt K mg t):Binds K t.fd_Learner_guess ["self"] []:=T.F_Learner_guess.binds fun _ _ _ _ _ _ us hl=>by obtain ⟨_,rfl⟩:=len_1 hl;rfl
theorem lines_cut {d:Int} {heads:List (List Int)} {i:Nat} {h:List Int} (e:heads[i]?=some h):((linesOf d heads).drop (i * (d.toNat+1)+1)).take d.toNat=edgesOf d h:=by
 apply List.ext_getElem?
 intro j
 by_cases hj:j < d.toNat
 ·rw [List.getElem?_take_of_lt hj,List.getElem?_drop,lines_edge e hj]
  unfold edgesOf
  rw [List.getElem?_map,List.getElem?_range hj];rfl
 ·rw [List.getElem?_eq_none_iff.mpr (by rw [List.length_take];omega),List.getElem?_eq_none_iff.mpr (by rw [edgesOf_len];omega)]
def sp_Learner_guess (K:PySem.W.Frag) (C CB CH CN:Addr):Sp:=fun vs H Q E=>∃ (p:Addr) (d:Int) (L:LA) (kn:Bk) (heads tails:List (List Int)),vs=[.ref p]∧LS C CB H p d L kn heads tails∧Small heads tails kn∧1≤d∧d≤6 ∧
 (Closed d kn heads tails→∀ H' gp aw rs al,LS C CB H' p d L kn heads tails→LStep p L L H H'→HouseAt CH H' gp d aw rs (guessW d kn heads tails) al (guessL kn heads)→(∀ b,b=gp∨b∈al :: aw :: rs→H b=none)→Q (.ref gp) H') ∧
 (nextQ d kn heads tails≠none→∀ H',LS C CB H' p d L kn heads tails→LStep p L L H H'→E (.ref CN) none H')
theorem ok_Learner_guess (T:Txt K mg t):FnOk P w K mg base (CXr P w) 6 t.f_Learner_guess t.fd_Learner_guess ["self"] (sp_Learner_guess K t.C_Learner t.C_Book t.C_House t.C_NotYet):=by
 refine T.F_Learner_guess.okX sc_Learner_guess (fun vs H Q E h=>?_) (fun cdv A outer s H vs Q E hr h=>?_)
 ·obtain ⟨p,d,L,kn,heads,tails,rfl,_⟩:=h
  rfl
 ·obtain ⟨p,d,L,kn,heads,tails,rfl,S,sm,hd1,hd6,q,qe⟩:=h
  obtain ⟨rows,f,lr,R⟩:=S.ex
  have I:=S.I
  obtain ⟨dx,fs,ho,hf⟩:=lr.ob
  refine ⟨_,pss_cons (ps_if (pt_cmpR op_notN (pe_meth0 (pv 0) T.cl_Learner T.me_Learner_question (ok_Learner_question T) (hr.mono (by decide)) (b_Learner_question T) .nil pass0) (pe_non) (nomark _))
 (pss_one (ps_raise xm_def rfl rfl T.mg_NotYet T.ex_NotYet.toExcCls (pa_cons (pe_str) (pa_nil))))
 (pss_nil))
 (pss_cons (ps_set (i:=1) sc_Learner_guess.nd rfl (Or.inr rfl) (pe_meth0 (pv 0) T.cl_Learner T.me_Learner_heads_by_row (ok_Learner_heads_by_row T) (hr.mono (by decide)) (b_Learner_heads_by_row T) .nil pass0))
 (pss_cons (ps_setC (i:=2) (N:=["self","numbers","leads","ways","number","first"]) (sc0:=(defScope s_Learner_guess)) (N':=["row","numbers"]) (caps:=[none,some 1]) (by exact ⟨rfl,by decide +kernel,by decide +kernel,by decide +kernel,rfl,rfl,by decide +kernel⟩) rfl sc_Learner_guess.nd rfl (Or.inl rfl) (pi_listK K (pe_fldK K (pv 0) rfl)) (fun _ _ _ _ _ _=>pg_name (i:=0) (show List.Nodup (["row","numbers"]:List Str) from by decide +kernel) rfl (Or.inl rfl)) (fun _ _ _ _ _ _=>pe_gget (tbKD P w) hr.u16 (pv 1) (pe_callTy (call_tuple_ofK K) rfl T.m_tuple boot_tuple (pa_cons (pv 0) (pa_nil))) (fun _ _=>rfl)))
 (pss_cons (ps_set (i:=3) sc_Learner_guess.nd rfl (Or.inl rfl) (pe_lst (pa_nil)))
 (pss_cons (ps_for xp_def.own rfl (pi_range1 rfl T.m_range (pa_cons (pe_callB (call_len_seqK K) rfl T.m_len PySem.boot_len (pa_cons (pe_fldK K (pv 0) rfl) (pa_nil))) (pa_nil))) (pg_name (i:=4) sc_Learner_guess.nd rfl (Or.inl rfl))
 (pss_cons (ps_set (i:=5) sc_Learner_guess.nd rfl (Or.inl rfl) (pe_op op_add (pe_op op_mul (pv 4) (pe_op op_add (pe_fldK K (pv 0) rfl) (pe_int))) (pe_int)))
 (pss_one (ps_expr (pe_bmK K PySem.F.plainAttrs_list PySem.F.slot_list_append PySem.F.type_list_append mt_append (pv 3) (pa_cons (pe_slice (sl_listK K) (pv 2) (po_some (pv 5)) (po_some (pe_op op_add (pv 5) (pe_fldK K (pv 0) rfl)))) (pa_nil)))))))
 (pss_one (ps_ret (pe_make T.mk_House (ok_House_init T) (hr.mono (by decide)) rfl T.mg_House (b_House_init T) .nil pass0 (pa_cons (pe_fldK K (pv 0) rfl) (pa_cons (pv 3) (pa_cons (pe_comp (N:=["self","numbers","leads","ways","number","first"]) (sc0:=(defScope s_Learner_guess)) (N':=["head","self"]) (caps:=[none,some 0]) (by exact ⟨rfl,by decide +kernel,by decide +kernel,by decide +kernel,rfl,rfl,by decide +kernel⟩) rfl (pi_listK K (pe_fldK K (pv 0) rfl)) (fun _ _ _ _ _ _=>pg_name (i:=0) (show List.Nodup (["head","self"]:List Str) from by decide +kernel) rfl (Or.inl rfl)) (fun _ _ _ _ _ _=>pe_meth (pe_fldK K (pv 1) rfl) T.cl_Book T.me_Book_said (ok_Book_said T) (hr.mono (by decide)) (b_Book_said T) .nil pass0X (pa_cons (pv 0) (pa_nil)))) (pa_nil))))))))))),?_⟩
  walk_at "w";refine ⟨p,dx,_,rfl,ho,hf.no _ (by decide +kernel),?_⟩
  refine ⟨p,d,L,kn,heads,tails,rows,f,rfl,lr,R,sm,I.lines1000 sm.hs,fun hq H1 rows1 l1 R1 st1=>?_,fun w' hq' H1 rows1 f1 wa l1 R1 st1 hwn hwa=>?_⟩
  rotate_left
  ·walk_at "w";refine ⟨rfl,?_⟩
   walk_at "w";refine r_iteP rfl ?_
   walk_at "w";exact ⟨by show 1≤sizeLine;decide,qe (by rw [hq'];simp) H1 ⟨⟨_,_,l1,R1⟩,S.I,S.st⟩ st1⟩
  have Cl:=closed_of S.st hq
  replace q:=q Cl
  obtain ⟨dx1,fs1,ho1,hf1⟩:=l1.ob
  have hrows:=R1.all.2
  walk_at "w";refine ⟨rfl,?_⟩
  walk_at "w";refine r_iteN rfl ?_
  walk_at "w";refine ⟨p,dx1,_,rfl,ho1,hf1.no _ (by decide +kernel),?_⟩
  refine ⟨p,d,L,kn,heads,tails,rows1,_,rfl,l1,hrows,I,sm.hs,hd1,hd6,fun H2 nb s2 hnb dg2=>?_⟩
  have l2:=l1.same s2
  have hLl:(linesOf d heads).length=heads.length * (d.toNat+1):=linesOf_len d heads
  have hLb:heads.length * (d.toNat+1)≤2800:=by
   have:heads.length * (d.toNat+1)≤400 * 7:=Nat.mul_le_mul sm.hs (by omega)
   omega
  have hRl:L.rA.length=(linesOf d heads).length:=by rw [l2.rww.len,R1.len]
  walk_at "w";refine ⟨_,rfl,p,_,dx1,_,_,rfl,s2 _ _ ho1,T.cl_Learner,T.na_Learner_rows,hf1.rows,?_⟩
  refine ⟨L.ro,rfl,⟨_,SqL.of l2.rws⟩,?_⟩
  refine comp_list (xs:=L.rA.map V.ref) (fun acc i ys H'=>(∀ b o,H2 b=some o→H' b=some o)∧H2 acc=none∧H' acc=some (.lst ys)∧ys=(((linesOf d heads).take i).map (ixR kn heads tails)).map V.int) (fun acc hacc=>⟨fun b o e=>Same.upd_new hacc b o e,hacc,upd_same,rfl⟩) (fun acc i ys H' hacc _ pp=>SqL.of (pp.1 _ _ l2.rws)) (fun acc i x ys H3 hacc hx pp=>?_) (fun acc ys H3 hacc pp=>?_)
  ·obtain ⟨s3,_,hac,rfl⟩:=pp
   have hx0:=ref_map_inv hx
   clear hx
   obtain ⟨ra,rfl,hra⟩:=hx0
   have hi:i < (linesOf d heads).length:=by rw [← hRl];exact (List.getElem?_eq_some_iff.mp hra).1
   have hl:=List.getElem?_eq_getElem hi
   have hr:rows1[i]?=some (rowOf kn tails (linesOf d heads)[i]):=by rw [hrows,List.getElem?_map,hl];rfl
   have hin:=loose_none.mp Cl.l _ (List.getElem_mem hi)
   generalize (linesOf d heads)[i]=l at hl hr hin
   have ra2:=l2.rww.row i ra _ hra hr
   walk_at "w";refine ⟨Wk.set rfl,?_⟩
   walk_at "w";refine ⟨ra,_,rfl,.inl ⟨SqL.of (s3 _ _ ra2),fun kt hkt=>?_⟩⟩
   have s5:Same H3 (upd H3 kt (.tup ((rowOf kn tails l).map V.bl))):=Same.upd_new hkt
   have kt5:(upd H3 kt (.tup ((rowOf kn tails l).map V.bl))) kt=some (.tup ((rowOf kn tails l).map V.bl)):=upd_same
   generalize upd H3 kt (.tup ((rowOf kn tails l).map V.bl))=H5 at s5 kt5 ⊢
   refine ⟨nb,kt,rowOf kn tails l,_,_,rfl,rfl,kt5,dg2.same (fun b o e=>s5 _ _ (s3 b o e)),by rw [valV_numK,if_pos hin],?_⟩
   refine ⟨s5 _ _ hac,big6 (by rw [List.length_map,List.length_map,List.length_take];omega),fun b o e=>?_,hacc,upd_same,?_⟩
   ·rw [upd_ne (ne_of_none e hacc)];exact s5 _ _ (s3 b o e)
   ·rw [take_snocT hl,List.map_append,List.map_append];rfl
  ·obtain ⟨s3,_,hac,rfl⟩:=pp
   rw [List.length_map,hRl,List.take_length] at hac
   have s3':Same H2 H3:=s3
   clear s3
   have l3:=l2.same s3'
   have st3:LStep p L L H H3:=st1.trans (.same (s2.trans s3'))
   have s13:Same H1 H3:=s2.trans s3'
   walk_at "w";refine ⟨Nat.zero_le _,fun wa hwa=>?_⟩
   have G0:Grown H3 (upd H3 wa (.lst [])) wa [] (fun j=>(guessW d kn heads tails).getD j []):=Grown.start hwa
   have s4:Same H3 (upd H3 wa (.lst [])):=Same.upd_new hwa
   generalize upd H3 wa (.lst [])=H4 at G0 s4 ⊢
   walk_at "w";refine ⟨_,rfl,p,_,dx1,_,_,rfl,s4 _ _ (s13 _ _ ho1),T.cl_Learner,T.na_Learner_heads,hf1.heads,?_⟩
   refine ⟨_,_,rfl,.inl (SqL.of (s4 _ _ l3.hds)),?_⟩
   rw [List.length_map,l3.hdw.len]
   walk_at "w";refine ⟨_,rfl,by omega,by have:=sm.hs;omega,?_⟩
   refine for_range (fun i σ H'=>∃ rs,rs.length=i∧Grown H3 H' wa rs (fun j=>(guessW d kn heads tails).getD j [])∧∃ k4 k5,σ=[some (.ref p),some (.ref nb),some (.ref acc),some (.ref wa),k4,k5]) ⟨[],rfl,G0,_,_,rfl⟩ (fun i σ H5 hi pp=>?_) (fun σ H5 pp=>?_)
   ·obtain ⟨rs,hrs,G,k4,k5,rfl⟩:=pp
    have hih:i < heads.length:=by omega
    have hhi:=List.getElem?_eq_getElem hih
    have e0:(0:Int)+(i:Int)=(i:Int):=by omega
    rw [e0]
    have hm:=sm.hs
    have hmul:(i:Int) * (d+1)=((i * (d.toNat+1):Nat):Int):=by
     rw [Int.natCast_mul,Int.natCast_add]
     have:(d.toNat:Int)=d:=Int.toNat_of_nonneg (by omega)
     rw [this];rfl
    have hib:i * (d.toNat+1)+(d.toNat+1)≤heads.length * (d.toNat+1):=by
     have:=Nat.mul_le_mul_right (d.toNat+1) (show i+1≤heads.length by omega)
     rw [Nat.succ_mul] at this;omega
    walk_at "w";refine ⟨_,rfl,p,_,dx1,_,_,rfl,G.same _ _ (s13 _ _ ho1),T.cl_Learner,T.na_Learner_doors,hf1.doors,?_⟩
    walk_at "w";refine r_I (Or.inl ⟨by omega,by omega⟩) ?_
    walk_at "w";rw [hmul]
    refine ⟨.inl ⟨rfl,_,SqL.of G.top⟩,?_⟩
    walk_at "w";refine ⟨_,rfl,?_⟩
    walk_at "w";refine ⟨_,rfl,p,_,dx1,_,_,rfl,G.same _ _ (s13 _ _ ho1),T.cl_Learner,T.na_Learner_doors,hf1.doors,?_⟩
    walk_at "w";refine ⟨_,rfl,?_⟩
    refine ⟨acc,_,rfl,SqL.of (G.same _ _ hac),fun sl hsl=>?_⟩
    have hcut:cutV (((linesOf d heads).map (ixR kn heads tails)).map V.int) (some (((i * (d.toNat+1):Nat):Int)+1)) (some (((i * (d.toNat+1):Nat):Int)+1+d))=((guessW d kn heads tails).getD rs.length []).map V.int:=by
     rw [cut_mid (by omega) (by omega) (by rw [List.length_map,List.length_map,hLl];omega)]
     rw [show (((i * (d.toNat+1):Nat):Int)+1).toNat=i * (d.toNat+1)+1 by omega,show (((i * (d.toNat+1):Nat):Int)+1+d).toNat - (i * (d.toNat+1)+1)=d.toNat by omega]
     rw [← List.map_drop,← List.map_drop,← List.map_take,← List.map_take,lines_cut hhi]
     unfold guessW
     rw [hrs,List.getD_eq_getElem?_getD,List.getElem?_map,hhi]
     rfl
    rw [hcut]
    have nsw:wa≠sl:=ne_of_none G.top hsl
    refine ⟨wa,_,_,rfl,rfl,by rw [upd_ne nsw];exact G.top,big6 (by rw [List.length_map];omega),?_⟩
    refine ⟨rs++[sl],by simp [hrs],G.step hsl (by rw [upd_same,List.map_append];rfl) (by rw [upd_ne (Ne.symm nsw),upd_same]) (fun b o h1 _ e=>by rw [upd_ne h1,upd_ne (ne_of_none e hsl)];exact e),_,_,rfl⟩
   ·obtain ⟨rs,hrs,G,k4,k5,rfl⟩:=pp
    rw [Int.toNat_natCast] at hrs
    have M5:=G.matOf (by rw [hrs];unfold guessW;rw [List.length_map])
    have l5:=l3.same G.same
    have ho5:=G.same _ _ (s13 _ _ ho1)
    walk_at "w";refine ⟨_,rfl,p,_,dx1,_,_,rfl,ho5,T.cl_Learner,T.na_Learner_doors,hf1.doors,?_⟩
    walk_at "w";refine ⟨_,rfl,p,_,dx1,_,_,rfl,ho5,T.cl_Learner,T.na_Learner_heads,hf1.heads,?_⟩
    refine ⟨L.ha,rfl,⟨_,SqL.of l5.hds⟩,?_⟩
    refine comp_list (xs:=L.hA.map V.ref) (fun ac i ys H'=>(∀ b o,H5 b=some o→H' b=some o)∧H' ac=some (.lst ys)∧ys=((guessL kn heads).take i).map V.bl) (fun ac hacc=>⟨fun b o e=>Same.upd_new hacc b o e,upd_same,rfl⟩) (fun ac i ys H' hacc _ pp=>SqL.of (pp.1 _ _ l5.hds)) (fun ac i x ys H6 hacc hx pp=>?_) (fun ac ys H6 hacc pp=>?_)
    ·obtain ⟨s6,hac6,rfl⟩:=pp
     have hx0:=ref_map_inv hx
     clear hx
     obtain ⟨hx,rfl,hha⟩:=hx0
     have hi:i < heads.length:=by rw [← l5.hdw.len];exact (List.getElem?_eq_some_iff.mp hha).1
     have hhi:=List.getElem?_eq_getElem hi
     have hw6:=l5.hdw.row i hx _ hha hhi
     have hwo:=I.hok _ (List.getElem_mem hi)
     obtain ⟨bb,hbb⟩:=next_none.mp Cl.q heads[i] (mem_lines.mpr ⟨_,List.getElem_mem hi,.inl rfl⟩) [] I.tmem0
     rw [List.append_nil] at hbb
     have hgl:(guessL kn heads)[i]?=some bb:=by unfold guessL;rw [List.getElem?_map,hhi,Option.map_some,hbb];rfl
     generalize heads[i]=hd at hhi hw6 hwo hbb
     have l6:LrnAt t.C_Learner t.C_Book H6 p d L kn heads tails rows1 _:=l5.same s6
     obtain ⟨bx,hbk⟩:=l6.book.ob
     walk_at "w";refine ⟨Wk.set rfl,?_⟩
     walk_at "w";refine ⟨_,rfl,p,_,dx1,_,_,rfl,s6 _ _ ho5,T.cl_Learner,T.na_Learner_book,hf1.book,?_⟩
     refine ⟨L.bk,bx,_,rfl,hbk,bkf_no _ _ (by decide +kernel) (by decide +kernel),?_⟩
     walk_at "w";refine ⟨L.bk,d,L.nb,kn,hx,hd,rfl,l6.book,SqL.of (s6 _ _ hw6),wok_small hwo hd6,fun _ H7 s7=>?_,fun nw=>absurd hwo nw⟩
     have e7:saidV kn hd=.bl bb:=by unfold saidV;rw [hbb];rfl
     rw [e7]
     refine ⟨s7 _ _ hac6,big6 (by rw [List.length_map,List.length_take];have:=sm.hs;omega),fun b o e=>?_,upd_same,?_⟩
     ·rw [upd_ne (ne_of_none e hacc)];exact s7 _ _ (s6 b o e)
     ·rw [take_snocT hgl,List.map_append];rfl
    ·obtain ⟨s6,hac6,rfl⟩:=pp
     have hgll:(guessL kn heads).length=heads.length:=by simp [guessL]
     rw [List.length_map,l5.hdw.len,← hgll,List.take_length] at hac6
     have s6':Same H5 H6:=s6
     have l6:=l5.same s6'
     have M6:=M5.same s6'
     walk_at "w";intro hp hdx e1 e2 e3
     have sm6:Same H6 (upd (upd H6 hdx (.own hp)) hp (.ins t.C_House hdx [])):=(Same.upd_new e2).trans (Same.upd_new (by rw [upd_ne (Ne.symm e3)];exact e1))
     refine ⟨hp,hdx,d,wa,rs,guessW d kn heads tails,ac,guessL kn heads,rfl,upd_same,M6.same sm6,SqL.of (sm6 _ _ hac6),I.valid Cl hd1 hd6 sm.hs,fun H7 aw7 rs7 al7 hh7 keep7 new7=>⟨rfl,?_⟩⟩
     have s7:Same H6 H7:=fun b o e=>keep7 b o (sm6 b o e) (ne_of_none e e1)
     have sAll:Same H1 H7:=(s13.trans G.same).trans (s6'.trans s7)
     have hfree:∀ b,H6 b=none→H b=none:=fun b e=>by
      have e':=((s13.trans G.same).trans s6').free e
      cases hh:H b with
      | none=>rfl
      | some o =>
       rw [st1.kp b o (fun z=>l1.notOwn e' (own_mut z)) hh] at e';cases e'
     walk_at "w";refine q H7 hp aw7 rs7 al7 ⟨⟨rows1,_,l1.same sAll,R1⟩,I,S.st⟩ (st1.trans (.same sAll)) hh7 (fun b hb=>?_)
     rcases hb with rfl | hb
     ·exact hfree _ e1
     ·exact hfree _ (sm6.free (new7 b hb))
theorem sc_Learner_add_tails:FnScope ["self","word","size","end"] ["self","word"] (defScope s_Learner_add_tails):=⟨rfl,rfl,rfl,by decide +kernel,rfl,by decide +kernel,by decide +kernel⟩
theorem b_Learner_add_tails (T:Txt K mg t):Binds K t.fd_Learner_add_tails ["self","word"] []:=T.F_Learner_add_tails.binds fun _ _ _ _ _ _ us hl=>by obtain ⟨_,_,rfl⟩:=len_2 hl;rfl
def sp_Learner_add_tails (K:PySem.W.Frag) (C CB:Addr):Sp:=fun vs H Q _=>∃ (p:Addr) (d:Int) (L:LA) (kn:Bk) (heads tails:List (List Int)) (rows:List (List Bool)) (f:Nat) (b:Addr) (ws:List Int),vs=[.ref p,.ref b]∧LrnAt C CB H p d L kn heads tails rows f∧H b=some (.lst (ws.map V.int))∧b∉mutL p L∧ws.length≤100000∧tails.length≤100000 ∧
 (∀ H' L',LrnAt C CB H' p d L' kn heads (ends tails ws) rows 0→LStep p L L' H H'→Q .non H')
theorem ok_Learner_add_tails (T:Txt K mg t):FnOk P w K mg base CX0 1 t.f_Learner_add_tails t.fd_Learner_add_tails ["self","word"] (sp_Learner_add_tails K t.C_Learner t.C_Book):=by
 refine T.F_Learner_add_tails.ok sc_Learner_add_tails (fun vs H Q E h=>?_) (fun cdv A outer s H vs Q E hr h=>?_)
 ·obtain ⟨p,d,L,kn,heads,tails,rows,f,b,ws,rfl,_⟩:=h
  rfl
 ·obtain ⟨p,d,L,kn,heads,tails,rows,f,b,ws,rfl,lr,hb,nb,hw5,ht5,q⟩:=h
  refine ⟨_,pss_cons (ps_for PassesOwn.never rfl (pi_range2 rfl T.m_range (pa_cons (pe_int) (pa_cons (pe_op op_add (pe_callB (call_len_seqK K) rfl T.m_len PySem.boot_len (pa_cons (pv 1) (pa_nil))) (pe_int)) (pa_nil)))) (pg_name (i:=2) sc_Learner_add_tails.nd rfl (Or.inl rfl))
 (pss_cons (ps_set (i:=3) sc_Learner_add_tails.nd rfl (Or.inl rfl) (pe_slice (sl_listK K) (pv 1) (po_some (pe_op op_sub (pe_callB (call_len_seqK K) rfl T.m_len PySem.boot_len (pa_cons (pv 1) (pa_nil))) (pv 2))) (po_none)))
 (pss_one (ps_join (ps_if (pt_cmp (pc_op (op_notinWK K hr.u80) (pv 3) (pe_fldK K (pv 0) rfl)))
 (pss_one (ps_expr (pe_bmK K PySem.F.plainAttrs_list PySem.F.slot_list_append PySem.F.type_list_append mt_append (pe_fldK K (pv 0) rfl) (pa_cons (pv 3) (pa_nil)))))
 (pss_nil))))))
 (pss_one (ps_fldK K (pv 0) (pe_int) rfl)),?_⟩
  walk_at "w";refine ⟨b,_,rfl,.inl (SqL.of hb),?_⟩
  rw [List.length_map]
  walk_at "w";refine ⟨_,_,rfl,by constructor <;> omega,?_⟩
  refine for_range (fun i σ H'=>∃ L',LrnAt t.C_Learner t.C_Book H' p d L' kn heads (endsK tails ws i) rows f∧LStep p L L' H H'∧mutL p L'=mutL p L∧∃ k2 k3,σ=[some (.ref p),some (.ref b),k2,k3]) ⟨L,lr,.same (Same.refl _),rfl,_,_,rfl⟩ (fun i σ H1 hi pp=>?_) (fun σ H1 pp=>?_)
  ·obtain ⟨L1,l1,st1,eta,k2,k3,rfl⟩:=pp
   have hi':i < ws.length:=by omega
   obtain ⟨dx1,fs1,ho1,hf1⟩:=l1.ob
   have hb1:H1 b=some (.lst (ws.map V.int)):=st1.kp _ _ nb hb
   have nb1:b∉mutL p L1:=fun z=>by
    rcases st1.mu b z with h | h
    ·exact nb h
    ·rw [hb] at h;cases h
   walk_at "w";refine ⟨b,_,rfl,.inl (SqL.of hb1),?_⟩
   rw [List.length_map]
   walk_at "w";refine ⟨_,rfl,?_⟩
   walk_at "w";refine ⟨b,_,rfl,SqL.of hb1,fun e he=>?_⟩
   have hcut:cutV (ws.map V.int) (some ((ws.length:Int) - (1+(i:Int)))) none=(ws.drop (ws.length - (i+1))).map V.int:=by
    rw [cut_from (by omega) (by rw [List.length_map];omega),List.map_drop]
    congr 1;omega
   rw [hcut]
   have s2:Same H1 (upd H1 e (.lst ((ws.drop (ws.length - (i+1))).map V.int))):=Same.upd_new he
   have e2:(upd H1 e (.lst ((ws.drop (ws.length - (i+1))).map V.int))) e=some (.lst ((ws.drop (ws.length - (i+1))).map V.int)):=upd_same
   have ne:=l1.notOwn he
   generalize upd H1 e (.lst ((ws.drop (ws.length - (i+1))).map V.int))=H2 at s2 e2 ⊢
   have l2:=l1.same s2
   walk_at "w";have eend:endsK tails ws (i+1)=if ws.drop (ws.length - (i+1))∈endsK tails ws i then endsK tails ws i else endsK tails ws i++[ws.drop (ws.length - (i+1))]:=rfl
   refine r_join (fun σ' H'=>∃ L',LrnAt t.C_Learner t.C_Book H' p d L' kn heads (endsK tails ws (i+1)) rows f∧LStep p L L' H H'∧mutL p L'=mutL p L∧∃ k2 k3,σ'=[some (.ref p),some (.ref b),k2,k3]) ?_ (fun σ' H' z=>z)
   walk_at "w";refine ⟨_,rfl,p,_,dx1,_,_,rfl,s2 _ _ ho1,T.cl_Learner,T.na_Learner_tails,hf1.tails,?_⟩
   refine ⟨e,L1.ta,_,L1.tA,_,rfl,rfl,SqL.of e2,SqL.of l2.tls,l2.tlw,?_⟩
   walk_at "w";by_cases hm:ws.drop (ws.length - (i+1))∈endsK tails ws i
   ·refine r_iteN (by simp [hm]) ?_
    walk_at "w";rw [eend,if_pos hm]
    exact ⟨L1,l2,st1.trans (.same s2),eta,_,_,rfl⟩
   ·refine r_iteP (by simp [hm]) ?_
    walk_at "w";refine ⟨_,rfl,p,_,dx1,_,_,rfl,s2 _ _ ho1,T.cl_Learner,T.na_Learner_tails,hf1.tails,?_⟩
    walk_at "w";refine ⟨.inl ⟨rfl,_,SqL.of l2.tls⟩,?_⟩
    walk_at "w";obtain ⟨r,er,hrl⟩:=ends_pre (tails:=tails) (w:=ws) i
    refine ⟨L1.ta,_,_,rfl,rfl,l2.tls,big6 (by rw [List.length_map,l2.tlw.len,er,List.length_append];omega),?_⟩
    obtain ⟨l3,k3⟩:=l2.tail e2 (fun z=>ne (own_mut z))
    rw [show L1.tA.map V.ref++[V.ref e]=(L1.tA++[e]).map V.ref by rw [List.map_append];rfl]
    rw [eend,if_neg hm]
    have heH:H e=none:=by
     cases hh:H e with
     | none=>rfl
     | some o =>
      have:e∉mutL p L:=fun z=>ne (own_mut (by rw [eta];exact z))
      rw [st1.kp e o this hh] at he;cases he
    refine ⟨_,l3,⟨fun c o hc q=>k3 c o (fun z=>hc (by rw [← eta,z];exact mut_ta)) (s2 _ _ (st1.kp c o hc q)),fun c hc=>?_,fun c hc=>.inl (by rw [← eta];exact hc)⟩,eta,_,_,rfl⟩
    rcases own_tail hc with h | h
    ·exact st1.own c h
    ·rw [h];exact .inr heH
  ·obtain ⟨L1,l1,st1,eta,k2,k3,rfl⟩:=pp
   obtain ⟨dx1,fs1,ho1,hf1⟩:=l1.ob
   walk_at "w";refine ⟨p,_,dx1,_,rfl,ho1,T.cl_Learner,T.na_Learner_filled,by have:=hf1.len;omega,?_⟩
   obtain ⟨l2,st2⟩:=l1.setF (dx:=dx1) (hf1.setF 0)
   have el:((ws.length:Int)+1 - 1).toNat=ws.length:=by omega
   rw [el] at l2
   exact q _ L1 l2 (st1.trans st2)
theorem sc_Learner_wrong:FnScope ["self","word","lit","guessed"] ["self","word","lit"] (defScope s_Learner_wrong):=⟨rfl,rfl,rfl,by decide +kernel,rfl,by decide +kernel,by decide +kernel⟩
theorem b_Learner_wrong (T:Txt K mg t):Binds K t.fd_Learner_wrong ["self","word","lit"] []:=T.F_Learner_wrong.binds fun _ _ _ _ _ _ us hl=>by obtain ⟨_,_,_,rfl⟩:=len_3 hl;rfl
def sp_Learner_wrong (K:PySem.W.Frag) (C CB CY CW CS CN:Addr):Sp:=fun vs H Q E=>∃ (p:Addr) (d:Int) (L:LA) (kn:Bk) (heads tails:List (List Int)) (b:Addr) (ws:List Int) (lit:Bool),vs=[.ref p,.ref b,.bl lit]∧LS C CB H p d L kn heads tails∧Small heads tails kn∧kn.length < 100000∧1≤d∧d≤6 ∧
 H b=some (.lst (ws.map V.int))∧b∉ownL p L∧SmallW ws∧ws.length≤900 ∧
 (nextQ d kn heads tails=none→WordOk d ws→saidO kn ws=none→lampW (guessW d kn heads tails) (guessL kn heads) ws=(!lit)→Small heads (ends tails ws) kn∧(∀ hs,LI d (kn++[(ws,lit)]) hs (ends tails ws)→hs.length≤400) ∧
 (∀ H' L',LS C CB H' p d L' (kn++[(ws,lit)]) (grow d (kn++[(ws,lit)]) (ends tails ws) heads) (ends tails ws)→LStep p L L' H H'→Q .non H')) ∧
 (nextQ d kn heads tails≠none→∀ H',LS C CB H' p d L kn heads tails→LStep p L L H H'→E (.ref CY) none H') ∧
 (nextQ d kn heads tails=none→¬ WordOk d ws→∀ H',LS C CB H' p d L kn heads tails→LStep p L L H H'→E (.ref CW) none H') ∧
 (nextQ d kn heads tails=none→WordOk d ws→saidO kn ws=some (!lit)→∀ H',LS C CB H' p d L kn heads tails→LStep p L L H H'→E (.ref CS) none H') ∧
 (nextQ d kn heads tails=none→WordOk d ws→saidO kn ws≠some (!lit)→lampW (guessW d kn heads tails) (guessL kn heads) ws=lit→∀ H',LS C CB H' p d L kn heads tails→LStep p L L H H'→E (.ref CN) none H')
theorem ok_Learner_wrong (T:Txt K mg t):FnOk P w K mg base (CXr P w) 8 t.f_Learner_wrong t.fd_Learner_wrong ["self","word","lit"] (sp_Learner_wrong K t.C_Learner t.C_Book t.C_NotYet t.C_BadWord t.C_SaidOtherwise t.C_NotWrong):=by
 refine T.F_Learner_wrong.okX sc_Learner_wrong (fun vs H Q E h=>?_) (fun cdv A outer s H vs Q E hr h=>?_)
 ·obtain ⟨p,d,L,kn,heads,tails,b,ws,lit,rfl,_⟩:=h
  rfl
 ·obtain ⟨p,d,L,kn,heads,tails,b,ws,lit,rfl,S,sm0,hk,hd1,hd6,hb,nb,hsw,hw9,qq,qy,qw,qs,qn⟩:=h
  have ht5:=sm0.ts
  obtain ⟨rows,f,lr,R⟩:=S.ex
  have I:=S.I
  obtain ⟨dx,fs,ho,hf⟩:=lr.ob
  refine ⟨_,pss_cons (ps_set (i:=3) sc_Learner_wrong.nd rfl (Or.inl rfl) (pe_meth0 (pv 0) T.cl_Learner T.me_Learner_guess (ok_Learner_guess T) (hr.mono (by decide)) (b_Learner_guess T) .nil xp_def.pass))
 (pss_cons (ps_expr (pe_meth (pe_fldK K (pv 0) rfl) T.cl_Book T.me_Book_check_note (ok_Book_check_note T) (hr.mono (by decide)) (b_Book_check_note T) .nil xp_def.pass (pa_cons (pv 1) (pa_cons (pv 2) (pa_nil)))))
 (pss_cons (ps_if (pt_cmpR op_eq (pe_meth (pv 3) T.cl_House T.me_House_says (ok_House_says T) (hr.mono (by decide)) (b_House_says T) .nil xp_def.pass (pa_cons (pv 1) (pa_nil))) (pv 2) (nomark _))
 (pss_one (ps_raise xm_def rfl rfl T.mg_NotWrong T.ex_NotWrong.toExcCls (pa_cons (pe_str) (pa_nil))))
 (pss_nil))
 (pss_cons (ps_expr (pe_meth (pe_fldK K (pv 0) rfl) T.cl_Book T.me_Book_note (ok_Book_note T) (hr.mono (by decide)) (b_Book_note T) .nil xp_def.pass (pa_cons (pv 1) (pa_cons (pv 2) (pa_nil)))))
 (pss_cons (ps_expr (pe_meth (pv 0) T.cl_Learner T.me_Learner_add_tails (ok_Learner_add_tails T) (hr.mono (by decide)) (b_Learner_add_tails T) .nil pass0 (pa_cons (pv 1) (pa_nil))))
 (pss_one (ps_expr (pe_meth0 (pv 0) T.cl_Learner T.me_Learner_add_unlike_edges (ok_Learner_add_unlike_edges T) (hr.mono (by decide)) (b_Learner_add_unlike_edges T) .nil pass0))))))),?_⟩
  walk_at "w";refine ⟨p,dx,_,rfl,ho,hf.no _ (by decide +kernel),?_⟩
  refine ⟨p,d,L,kn,heads,tails,rfl,S,sm0,hd1,hd6,fun Cl H1 gp aw rs al S1 st1 hh1 new1=>?_,fun hq H1 S1 st1=>qy hq H1 S1 st1⟩
  have hq:=Cl.q
  obtain ⟨rows1,f1,l1,R1⟩:=S1.ex
  obtain ⟨dx1,fs1,ho1,hf1⟩:=l1.ob
  obtain ⟨bx,hbk⟩:=l1.book.ob
  have nbm:b∉mutL p L:=fun z=>nb (own_mut z)
  have hb1:H1 b=some (.lst (ws.map V.int)):=st1.kp _ _ nbm hb
  have V1:=I.valid Cl hd1 hd6 sm0.hs
  walk_at "w";refine ⟨_,rfl,p,_,dx1,_,_,rfl,ho1,T.cl_Learner,T.na_Learner_book,hf1.book,?_⟩
  refine ⟨L.bk,bx,_,rfl,hbk,bkf_no _ _ (by decide +kernel) (by decide +kernel),?_⟩
  walk_at "w";refine ⟨L.bk,d,L.nb,kn,b,ws,lit,rfl,l1.book,SqL.of hb1,hsw,fun hwo hns H2 s2=>?_,fun hwo hs H2 s2=>qs hq hwo hs H2 (S1.same s2) (st1.trans (.same s2)),fun nw=>qw hq nw H1 S1 st1⟩
  have hh2:=hh1.same s2
  obtain ⟨gdx,hgo⟩:=hh2.ob
  walk_at "w";refine ⟨gp,gdx,_,rfl,hgo,hfs_no _ _ _ (by decide +kernel) (by decide +kernel) (by decide +kernel),?_⟩
  walk_at "w";refine ⟨gp,d,aw,rs,_,al,_,b,ws,rfl,hh2,V1.toWays,by have:=V1.r1;omega,V1.ll,SqL.of (s2 _ _ hb1),hsw,hw9,fun _ H3 s3=>?_,fun nw=>absurd hwo nw⟩
  have hlp:(guessL kn heads).getD (walkI (guessW d kn heads tails) 0 ws).toNat false=lampW (guessW d kn heads tails) (guessL kn heads) ws:=rfl
  rw [hlp]
  walk_at "w";refine r_eq rfl ?_
  walk_at "w";by_cases hlt:lampW (guessW d kn heads tails) (guessL kn heads) ws=lit
  ·refine r_iteP (by rw [hlt];simp) ?_
   walk_at "w";exact ⟨by show 1≤sizeLine;decide,qn hq hwo hns hlt H3 (S1.same (s2.trans s3)) (st1.trans (.same (s2.trans s3)))⟩
  have hlamp:lampW (guessW d kn heads tails) (guessL kn heads) ws=!lit:=by
   revert hlt
   cases lampW (guessW d kn heads tails) (guessL kn heads) ws <;> cases lit <;> simp
  have hno:saidO kn ws=none:=by
   cases e:saidO kn ws with
   | none=>rfl
   | some v =>
    have h1:=I.says Cl e
    rw [hlamp] at h1
    rw [h1] at hns
    exact absurd e hns
  obtain ⟨sm,bnd,q⟩:=qq hq hwo hno hlamp
  refine r_iteN (by simp [hlt]) ?_
  have s13:=s2.trans s3
  have l3:=l1.same s13
  obtain ⟨bx3,hbk3⟩:=l3.book.ob
  walk_at "w";refine ⟨_,rfl,p,_,dx1,_,_,rfl,s13 _ _ ho1,T.cl_Learner,T.na_Learner_book,hf1.book,?_⟩
  refine ⟨L.bk,bx3,_,rfl,hbk3,bkf_no _ _ (by decide +kernel) (by decide +kernel),?_⟩
  walk_at "w";refine ⟨L.bk,d,L.nb,kn,b,ws,lit,rfl,l3.book,SqL.of (s13 _ _ hb1),wok_small hwo hd6,sm.ks,fun _ _ H4 B4 k4=>?_,(fun _ hs=>by rw [hno] at hs;cases hs),(fun _ hs=>by rw [hno] at hs;cases hs),fun nw=>absurd hwo nw⟩
  obtain ⟨l4,st4⟩:=l3.noted B4 k4
  obtain ⟨dx4,fs4,ho4,hf4⟩:=l4.ob
  have hb4:H4 b=some (.lst (ws.map V.int)):=k4 _ _ (fun z=>nbm (by rw [z];exact mut_nb)) (s13 _ _ hb1)
  walk_at "w";refine ⟨p,dx4,_,rfl,ho4,hf4.no _ (by decide +kernel),?_⟩
  walk_at "w";refine ⟨p,d,L,_,heads,tails,rows1,f1,b,ws,rfl,l4,hb4,nbm,by omega,ht5,fun H5 L5 l5 st5=>?_⟩
  obtain ⟨dx5,fs5,ho5,hf5⟩:=l5.ob
  obtain ⟨r,er,hrl⟩:=ends_pre (tails:=tails) (w:=ws) ws.length
  have R5:RowsOk d (kn++[(ws,lit)]) heads (ends tails ws) rows1 0:=by
   unfold ends
   rw [er];exact (R1.note ws lit).more r
  have I5:=I.told lit hwo hno
  walk_at "w";refine ⟨p,dx5,_,rfl,ho5,hf5.no _ (by decide +kernel),?_⟩
  refine ⟨p,d,L5,_,heads,_,rows1,0,rfl,l5,R5,⟨sm.hs,sm.ts,sm.tw,by rw [List.length_append,List.length_singleton];omega⟩,I5,hd1,hd6,bnd,fun H6 L6 rows6 f6 l6 R6 I6 c6 st6=>?_⟩
  walk_at "w";exact q H6 L6 ⟨⟨rows6,f6,l6,R6⟩,I6,c6⟩ (st1.trans ((LStep.same s13).trans (st4.trans (st5.trans st6))))
theorem sc_l_cell_at:FnScope ["script","k"] ["script","k"] (defScope s_l_cell_at):=⟨rfl,rfl,rfl,by decide +kernel,rfl,by decide +kernel,by decide +kernel⟩
theorem b_l_cell_at (T:Txt K mg t):Binds K t.fd_l_cell_at ["script","k"] []:=T.F_l_cell_at.binds fun _ _ _ _ _ _ us hl=>by obtain ⟨_,_,rfl⟩:=len_2 hl;rfl
def sp_l_cell_at (K:PySem.W.Frag):Sp:=fun vs H Q _=>∃ (a:Addr) (ns:List Int) (k:Int),vs=[.ref a,.int k]∧SqL K H a (ns.map V.int)∧0≤k∧Q (.int (cellv ns k)) H
theorem ok_l_cell_at (T:Txt K mg t):FnOk P w K mg base CX0 1 t.f_l_cell_at t.fd_l_cell_at ["script","k"] (sp_l_cell_at K):=by
 refine T.F_l_cell_at.ok sc_l_cell_at (fun vs H Q E h=>?_) (fun cdv A outer s H vs Q E hr h=>?_)
 ·obtain ⟨a,ns,k,rfl,_⟩:=h
  rfl
 ·obtain ⟨a,ns,k,rfl,hS,h0,q⟩:=h
  refine ⟨_,pss_cons (ps_if (pt_cmpR op_lt (pv 1) (pe_callB (call_len_seqK K) rfl T.m_len PySem.boot_len (pa_cons (pv 0) (pa_nil))) (nomark _))
 (pss_one (ps_ret (pe_ix (ix_listK K) (pv 0) (pv 1) (fun _ _=>rfl))))
 (pss_nil))
 (pss_one (ps_ret (pe_int))),?_⟩
  walk_at "w";refine ⟨a,_,rfl,.inl hS,?_⟩
  walk_at "w";refine r_ite (fun hc=>?_) (fun hc=>?_)
  ·have hc:k < (ns.map V.int).length:=of_decide_eq_true hc
   rw [List.length_map] at hc
   have hn:k.toNat < ns.length:=by omega
   walk_at "w";refine r_ixL hS (atI_get' h0 (int_map_get (List.getElem?_eq_getElem hn))) ?_
   have e:cellv ns k=ns[k.toNat]:=by
    unfold cellv
    rw [if_pos hc,List.getD_eq_getElem?_getD,List.getElem?_eq_getElem hn,Option.getD_some]
   rw [e] at q
   exact q
  ·have hc:¬ k < (ns.map V.int).length:=of_decide_eq_false hc
   rw [List.length_map] at hc
   walk_at "w";have e:cellv ns k=0:=by unfold cellv;rw [if_neg hc]
   rw [e] at q
   exact q
theorem sc_l_draw:FnScope ["cell","k","bound","stir"] ["cell","k","bound"] (defScope s_l_draw):=⟨rfl,rfl,rfl,by decide +kernel,rfl,by decide +kernel,by decide +kernel⟩
theorem b_l_draw (T:Txt K mg t):Binds K t.fd_l_draw ["cell","k","bound"] []:=T.F_l_draw.binds fun _ _ _ _ _ _ us hl=>by obtain ⟨_,_,_,rfl⟩:=len_3 hl;rfl
def sp_l_draw:Sp:=fun vs H Q _=>∃ c k b:Int,vs=[.int c,.int k,.int b]∧0 < b∧Q (.int (draw c k b)) H
theorem ok_l_draw (T:Txt K mg t):FnOk P w K mg base CX0 1 t.f_l_draw t.fd_l_draw ["cell","k","bound"] (sp_l_draw):=by
 refine T.F_l_draw.ok sc_l_draw (fun vs H Q E h=>?_) (fun cdv A outer s H vs Q E hr h=>?_)
 ·obtain ⟨c,k,b,rfl,_⟩:=h
  rfl
 ·obtain ⟨c,k,b,rfl,hb,q⟩:=h
  refine ⟨_,pss_cons (ps_set (i:=3) sc_l_draw.nd rfl (Or.inl rfl) (pe_op op_mod (pe_op op_mul (pe_op op_add (pe_op op_add (pe_op op_mod (pv 0) (pe_int)) (pe_op op_mul (pe_int) (pv 1))) (pe_int)) (pe_int)) (pe_int)))
 (pss_cons (ps_set (i:=3) sc_l_draw.nd rfl (Or.inl rfl) (pe_op op_mod (pe_op op_mul (pe_op op_add (pv 3) (pe_op op_mul (pe_int) (pe_op op_add (pv 1) (pe_int)))) (pe_int)) (pe_int)))
 (pss_one (ps_ret (pe_op op_mod (pe_op op_fdiv (pv 3) (pe_int)) (pv 2))))),?_⟩
  walk_at "w";exact q
theorem sc_l_ways_by:FnScope ["cell","doors","rooms","ways","k"] ["cell","doors","rooms"] (defScope s_l_ways_by):=⟨rfl,rfl,rfl,by decide +kernel,rfl,by decide +kernel,by decide +kernel⟩
theorem b_l_ways_by (T:Txt K mg t):Binds K t.fd_l_ways_by ["cell","doors","rooms"] []:=T.F_l_ways_by.binds fun _ _ _ _ _ _ us hl=>by obtain ⟨_,_,_,rfl⟩:=len_3 hl;rfl
def sp_l_ways_by:Sp:=fun vs H Q _=>∃ c d r:Int,vs=[.int c,.int d,.int r]∧0≤d∧d≤1000∧0≤r∧r≤1000 ∧
 ∀ (a:Addr) (rs:List Addr) (H':Hp),Same H H'→Mat H' a rs (waysBy c d r)→(∀ b∈a :: rs,H b=none)→Q (.ref a) H'
theorem ok_l_ways_by (T:Txt K mg t):FnOk P w K mg base CX0 2 t.f_l_ways_by t.fd_l_ways_by ["cell","doors","rooms"] (sp_l_ways_by):=by
 refine T.F_l_ways_by.ok sc_l_ways_by (fun vs H Q E h=>?_) (fun cdv A outer s H vs Q E hr h=>?_)
 ·obtain ⟨c,d,r,rfl,_⟩:=h
  rfl
 ·obtain ⟨c,d,r,rfl,hd0,hd1,hr0,hr1,q⟩:=h
  refine ⟨_,pss_cons (ps_set (i:=3) sc_l_ways_by.nd rfl (Or.inl rfl) (pe_lst (pa_nil)))
 (pss_cons (ps_for PassesOwn.never rfl (pi_range1 rfl T.m_range (pa_cons (pv 2) (pa_nil))) (pg_name (i:=4) sc_l_ways_by.nd rfl (Or.inr rfl))
 (pss_one (ps_expr (pe_bmK K PySem.F.plainAttrs_list PySem.F.slot_list_append PySem.F.type_list_append mt_append (pv 3) (pa_cons (pe_comp (N:=["cell","doors","rooms","ways","k"]) (sc0:=(defScope s_l_ways_by)) (N':=["door","cell","k","rooms"]) (caps:=[none,some 0,some 4,some 2]) (by exact ⟨rfl,by decide +kernel,by decide +kernel,by decide +kernel,rfl,rfl,by decide +kernel⟩) rfl (pi_range1 rfl T.m_range (pa_cons (pv 1) (pa_nil))) (fun _ _ _ _ _ _=>pg_name (i:=0) (show List.Nodup (["door","cell","k","rooms"]:List Str) from by decide +kernel) rfl (Or.inl rfl)) (fun _ _ _ _ _ _=>pe_call (ok_l_draw T) (hr.mono (by decide)) rfl T.mg_l_draw T.F_l_draw.kp (b_l_draw T) .nil pass0 (pa_cons (pv 1) (pa_cons (pe_op op_add (pe_op op_mul (pe_int) (pv 2)) (pv 0)) (pa_cons (pv 3) (pa_nil)))))) (pa_nil))))))
 (pss_one (ps_ret (pv 3)))),?_⟩
  walk_at "w";refine ⟨Nat.zero_le _,fun l hl=>?_⟩
  walk_at "w";refine ⟨_,rfl,by omega,by omega,?_⟩
  refine for_range (fun i σ H'=>∃ rs kv,σ=[some (.int c),some (.int d),some (.int r),some (.ref l),kv]∧rs.length=i∧Grown H H' l rs (rowBy c d r)) ⟨[],none,rfl,rfl,Grown.start hl⟩ (fun i σ H1 hi p=>?_) (fun σ H1 p=>?_)
  ·obtain ⟨rs,kv,rfl,hlen,G⟩:=p
   walk_at "w";refine ⟨.inl ⟨rfl,_,SqL.of G.top⟩,?_⟩
   walk_at "w";refine ⟨_,rfl,by omega,by omega,?_⟩
   have hrp:0 < r:=by omega
   refine comp_range (fun acc j ys H2=>ys=(List.range j).map (fun (j:Nat)=>V.int (draw c (7 * (i:Int)+(j:Int)) r))∧H2=upd H1 acc (.lst ys)) (fun acc hacc=>⟨rfl,rfl⟩) (fun acc j ys H2 hacc hj p=>?_) (fun acc ys H2 hacc p=>?_)
   ·obtain ⟨rfl,rfl⟩:=p
    walk_at "w";refine ⟨Wk.set rfl,?_⟩
    walk_at "w";refine ⟨_,_,_,rfl,hrp,upd_same,small1000 (by simp;omega),?_,?_⟩
    ·rw [map_range_snoc];simp only [Int.zero_add]
    ·rw [upd_upd]
   ·obtain ⟨rfl,rfl⟩:=p
    walk_at "w";have hla:l≠acc:=fun z=>G.fresh hacc (by rw [z];exact List.mem_cons_self)
    refine ⟨l,rs.map V.ref,_,rfl,rfl,(by rw [upd_ne hla];exact G.top),small1000 (by simp;omega),?_⟩
    refine ⟨rs++[acc],_,rfl,by simp [hlen],?_⟩
    have:=G.snoc hacc
    have e:(rowBy c d r rs.length).map V.int=(List.range d.toNat).map (fun (j:Nat)=>V.int (draw c (7 * (i:Int)+(j:Int)) r)):=by
     unfold rowBy;rw [List.map_map,hlen];rfl
    rw [e] at this
    exact this
  ·obtain ⟨rs,kv,rfl,hlen,G⟩:=p
   walk_at "w";refine q l rs H1 G.same ?_ G.new
   have:=G.mat
   rw [hlen] at this
   exact this
theorem sc_l_lamps_by:FnScope ["cell","rooms"] ["cell","rooms"] (defScope s_l_lamps_by):=⟨rfl,rfl,rfl,by decide +kernel,rfl,by decide +kernel,by decide +kernel⟩
theorem b_l_lamps_by (T:Txt K mg t):Binds K t.fd_l_lamps_by ["cell","rooms"] []:=T.F_l_lamps_by.binds fun _ _ _ _ _ _ us hl=>by obtain ⟨_,_,rfl⟩:=len_2 hl;rfl
def sp_l_lamps_by:Sp:=fun vs H Q _=>∃ c r:Int,vs=[.int c,.int r]∧0≤r∧r≤1000∧∀ (a:Addr),H a=none→Q (.ref a) (upd H a (.lst ((lampsBy c r).map V.bl)))
theorem ok_l_lamps_by (T:Txt K mg t):FnOk P w K mg base CX0 2 t.f_l_lamps_by t.fd_l_lamps_by ["cell","rooms"] (sp_l_lamps_by):=by
 refine T.F_l_lamps_by.ok sc_l_lamps_by (fun vs H Q E h=>?_) (fun cdv A outer s H vs Q E hr h=>?_)
 ·obtain ⟨c,r,rfl,_⟩:=h
  rfl
 ·obtain ⟨c,r,rfl,hr0,hr1,q⟩:=h
  refine ⟨_,pss_one (ps_ret (pe_comp (N:=["cell","rooms"]) (sc0:=(defScope s_l_lamps_by)) (N':=["k","cell"]) (caps:=[none,some 0]) (by exact ⟨rfl,by decide +kernel,by decide +kernel,by decide +kernel,rfl,rfl,by decide +kernel⟩) rfl (pi_range1 rfl T.m_range (pa_cons (pv 1) (pa_nil))) (fun _ _ _ _ _ _=>pg_name (i:=0) (show List.Nodup (["k","cell"]:List Str) from by decide +kernel) rfl (Or.inl rfl)) (fun _ _ _ _ _ _=>pe_cmpR op_eq (pe_call (ok_l_draw T) (hr.mono (by decide)) rfl T.mg_l_draw T.F_l_draw.kp (b_l_draw T) .nil pass0 (pa_cons (pv 1) (pa_cons (pv 0) (pa_cons (pe_int) (pa_nil))))) (pe_int) (nomark _)))),?_⟩
  walk_at "w";refine ⟨_,rfl,by omega,by omega,?_⟩
  refine comp_range (fun acc j ys H2=>ys=(List.range j).map (fun (k:Nat)=>V.bl (decide (draw c (k:Int) 2=1)))∧H2=upd H acc (.lst ys)) (fun acc hacc=>⟨rfl,rfl⟩) (fun acc j ys H2 hacc hj p=>?_) (fun acc ys H2 hacc p=>?_)
  ·obtain ⟨rfl,rfl⟩:=p
   walk_at "w";refine ⟨Wk.set rfl,?_⟩
   walk_at "w";refine ⟨_,_,_,rfl,by decide,?_⟩
   walk_at "w";refine r_eq rfl ⟨upd_same,small1000 (by simp;omega),?_,?_⟩
   ·rw [map_range_snoc,dec_int];simp only [Int.zero_add];rfl
   ·rw [upd_upd]
  ·obtain ⟨rfl,rfl⟩:=p
   have:=q acc hacc
   unfold lampsBy at this
   rw [List.map_map] at this
   exact this
theorem sc_l_word_by:FnScope ["cell","doors","size"] ["cell","doors","size"] (defScope s_l_word_by):=⟨rfl,rfl,rfl,by decide +kernel,rfl,by decide +kernel,by decide +kernel⟩
theorem b_l_word_by (T:Txt K mg t):Binds K t.fd_l_word_by ["cell","doors","size"] []:=T.F_l_word_by.binds fun _ _ _ _ _ _ us hl=>by obtain ⟨_,_,_,rfl⟩:=len_3 hl;rfl
def sp_l_word_by:Sp:=fun vs H Q _=>∃ c d n:Int,vs=[.int c,.int d,.int n]∧0 < d∧0≤n∧n≤1000∧∀ (a:Addr),H a=none→Q (.ref a) (upd H a (.lst ((wordBy c d n).map V.int)))
theorem ok_l_word_by (T:Txt K mg t):FnOk P w K mg base CX0 2 t.f_l_word_by t.fd_l_word_by ["cell","doors","size"] (sp_l_word_by):=by
 refine T.F_l_word_by.ok sc_l_word_by (fun vs H Q E h=>?_) (fun cdv A outer s H vs Q E hr h=>?_)
 ·obtain ⟨c,d,n,rfl,_⟩:=h
  rfl
 ·obtain ⟨c,d,n,rfl,hd,hr0,hr1,q⟩:=h
  refine ⟨_,pss_one (ps_ret (pe_comp (N:=["cell","doors","size"]) (sc0:=(defScope s_l_word_by)) (N':=["k","cell","doors"]) (caps:=[none,some 0,some 1]) (by exact ⟨rfl,by decide +kernel,by decide +kernel,by decide +kernel,rfl,rfl,by decide +kernel⟩) rfl (pi_range1 rfl T.m_range (pa_cons (pv 2) (pa_nil))) (fun _ _ _ _ _ _=>pg_name (i:=0) (show List.Nodup (["k","cell","doors"]:List Str) from by decide +kernel) rfl (Or.inl rfl)) (fun _ _ _ _ _ _=>pe_call (ok_l_draw T) (hr.mono (by decide)) rfl T.mg_l_draw T.F_l_draw.kp (b_l_draw T) .nil pass0 (pa_cons (pv 1) (pa_cons (pv 0) (pa_cons (pv 2) (pa_nil))))))),?_⟩
  walk_at "w";refine ⟨_,rfl,by omega,by omega,?_⟩
  refine comp_range (fun acc j ys H2=>ys=(List.range j).map (fun (k:Nat)=>V.int (draw c (k:Int) d))∧H2=upd H acc (.lst ys)) (fun acc hacc=>⟨rfl,rfl⟩) (fun acc j ys H2 hacc hj p=>?_) (fun acc ys H2 hacc p=>?_)
  ·obtain ⟨rfl,rfl⟩:=p
   walk_at "w";refine ⟨Wk.set rfl,?_⟩
   walk_at "w";refine ⟨_,_,_,rfl,hd,upd_same,small1000 (by simp;omega),?_,?_⟩
   ·rw [map_range_snoc];simp only [Int.zero_add]
   ·rw [upd_upd]
  ·obtain ⟨rfl,rfl⟩:=p
   have:=q acc hacc
   unfold wordBy at this
   rw [List.map_map] at this
   exact this
theorem sc_l_walk:FnScope ["ways","room","word","door"] ["ways","room","word"] (defScope s_l_walk):=⟨rfl,rfl,rfl,by decide +kernel,rfl,by decide +kernel,by decide +kernel⟩
theorem b_l_walk (T:Txt K mg t):Binds K t.fd_l_walk ["ways","room","word"] []:=T.F_l_walk.binds fun _ _ _ _ _ _ us hl=>by obtain ⟨_,_,_,rfl⟩:=len_3 hl;rfl
def sp_l_walk (K:PySem.W.Frag):Sp:=fun vs H Q _=>∃ (a:Addr) (rs:List Addr) (rss:List (List Int)) (d q:Int) (b:Addr) (ws:List Int),vs=[.ref a,.int q,.ref b]∧Mat H a rs rss∧Ways d rss∧SqL K H b (ws.map V.int)∧WordOk d ws∧0≤q∧q < rss.length∧Q (.int (walkI rss q ws)) H
theorem ok_l_walk (T:Txt K mg t):FnOk P w K mg base CX0 1 t.f_l_walk t.fd_l_walk ["ways","room","word"] (sp_l_walk K):=by
 refine T.F_l_walk.ok sc_l_walk (fun vs H Q E h=>?_) (fun cdv A outer s H vs Q E hr h=>?_)
 ·obtain ⟨a,rs,rss,d,q,b,ws,rfl,_⟩:=h
  rfl
 ·obtain ⟨a,rs,rss,d,q,b,ws,rfl,M,W,hS,hw,h0,h1,k⟩:=h
  refine ⟨_,pss_cons (ps_for PassesOwn.never rfl (pi_listK K (pv 2)) (pg_name (i:=3) sc_l_walk.nd rfl (Or.inl rfl))
 (pss_one (ps_set (i:=1) sc_l_walk.nd rfl (Or.inl rfl) (pe_ix (ix_listK K) (pe_ix (ix_listK K) (pv 0) (pv 1) (fun _ _=>rfl)) (pv 3) (fun _ _=>rfl)))))
 (pss_one (ps_ret (pv 1))),?_⟩
  walk_at "w";refine ⟨b,rfl,⟨_,hS⟩,?_⟩
  refine for_list (xs:=ws.map V.int) (fun i σ H'=>H'=H∧∃ kv,σ=[some (.ref a),some (.int (walkI rss q (ws.take i))),some (.ref b),kv]) ⟨rfl,none,rfl⟩ (fun i σ H' _ p=>by rw [p.1];exact hS) (fun i x σ H' hx p=>?_) (fun σ H' p=>?_)
  ·obtain ⟨rfl,kv,rfl⟩:=p
   have hx0:=int_map_inv hx
   clear hx
   obtain ⟨x,rfl,hx⟩:=hx0
   obtain ⟨x0,x1⟩:=hw x (List.mem_of_getElem? hx)
   obtain ⟨b0,b1⟩:=walkI_in W (hw.take i) h0 h1
   obtain ⟨row,e1,e2,_,_⟩:=step_in W b0 b1 x0 x1
   obtain ⟨r,e3,e4,e5⟩:=M.get e1
   walk_at "w";refine r_ixL (SqL.of M.top) (atI_get' b0 e4) ?_
   walk_at "w";refine r_ixL (SqL.of e5) (atI_get' x0 (int_map_get e2)) ?_
   walk_at "w";refine ⟨rfl,some (.int x),?_⟩
   rw [take_snoc hx,walkI_snoc]
   rfl
  ·obtain ⟨rfl,kv,rfl⟩:=p
   walk_at "w";rw [List.length_map,List.take_length]
   exact k
theorem sc_l_part:FnScope ["ways","lamps","left","others","lights","right","rows","met","k","door","to","go"] ["ways","lamps","left","others","lights","right"] (defScope s_l_part):=⟨rfl,rfl,rfl,by decide +kernel,rfl,by decide +kernel,by decide +kernel⟩
theorem b_l_part (T:Txt K mg t):Binds K t.fd_l_part ["ways","lamps","left","others","lights","right"] []:=T.F_l_part.binds fun _ _ _ _ _ _ us hl=>by obtain ⟨_,_,_,_,_,_,rfl⟩:=len_6 hl;rfl
abbrev PK:=Int×Int
def stP (rss rss2:List (List Int)):PK→Int→PK:=fun p x=>(step rss p.1 x,step rss2 p.2 x)
theorem walkP (rss rss2:List (List Int)) (a b:Int) (w:List Int):walkG (stP rss rss2) (a,b) w=(walkI rss a w,walkI rss2 b w):=by
 unfold walkG walkI
 induction w generalizing a b with
 | nil=>rfl
 | cons x w ih=>exact ih (step rss a x) (step rss2 b x)
def sp_l_part (K:PySem.W.Frag):Sp:=fun vs H Q _=>∃ (aw:Addr) (rs:List Addr) (rss:List (List Int)) (al:Addr) (ls:List Bool) (a:Int) (ao:Addr) (rs2:List Addr) (rss2:List (List Int)) (ol:Addr) (ls2:List Bool) (b d:Int),vs=[.ref aw,.ref al,.int a,.ref ao,.ref ol,.int b]∧Mat H aw rs rss∧SqL K H al (ls.map V.bl)∧Mat H ao rs2 rss2∧SqL K H ol (ls2.map V.bl)∧PairIn d rss rss2 ls ls2 a b ∧
 (∀ H',Same H H'→(∀ w,WordOk d w→lampI ls (walkI rss a w)=lampI ls2 (walkI rss2 b w))→Q .non H') ∧
 (∀ H' p w,Same H H'→H' p=some (.lst (w.map V.int))→H p=none→Parts d rss rss2 ls ls2 a b w→Q (.ref p) H')
def metKV (L:List (PK×List Int)):List (List Key×V):=L.map fun e=>([.inl e.1.1,.inl e.1.2],.bl true)
structure PB (H H':Hp) (ra md:Addr) (L:List (PK×List Int)) (ts ws:List Addr):Prop where
 same:Same H H'
 rows:H' ra=some (.lst (ts.map V.ref))
 lt:ts.length=L.length
 lw:ws.length=L.length
 trip:∀ (i:Nat) (t w:Addr) (e:PK×List Int),ts[i]?=some t→ws[i]?=some w→L[i]?=some e→H' t=some (.lst [.ref w,.int e.1.1,.int e.1.2])
 word:∀ (i:Nat) (w:Addr) (e:PK×List Int),ws[i]?=some w→L[i]?=some e→H' w=some (.lst (e.2.map V.int))
 met:H' md=some (.dT (metKV L))
 nra:H ra=none
 nmd:H md=none
 nw:∀ b∈ws,H b=none
 ne:ra≠md
 out:∀ b∈ts++ws,b≠ra∧b≠md
theorem PB.tick {H H' H2:Hp} {ra md:Addr} {L:List (PK×List Int)} {ts ws:List Addr} (B:PB H H' ra md L ts ws) (s:Same H' H2):PB H H2 ra md L ts ws :=
 ⟨B.same.trans s,s _ _ B.rows,B.lt,B.lw,fun i t w e h1 h2 h3=>s _ _ (B.trip i t w e h1 h2 h3),fun i w e h1 h2=>s _ _ (B.word i w e h1 h2),s _ _ B.met,B.nra,B.nmd,B.nw,B.ne,B.out⟩
theorem PB.add {H H1 H3:Hp} {ra md p2 t2:Addr} {L:List (PK×List Int)} {ts ws:List Addr} (B:PB H H1 ra md L ts ws) {e:PK×List Int} (s:Same (upd H1 md (.dT (metKV L++[([.inl e.1.1,.inl e.1.2],.bl true)]))) H3) (hp:(upd H1 md (.dT (metKV L++[([.inl e.1.1,.inl e.1.2],.bl true)]))) p2=none) (ht:(upd H1 md (.dT (metKV L++[([.inl e.1.1,.inl e.1.2],.bl true)]))) t2=none)
  (hp3:H3 p2=some (.lst (e.2.map V.int))) (ht3:H3 t2=some (.lst [.ref p2,.int e.1.1,.int e.1.2])) :
  PB H (upd H3 ra (.lst (ts.map V.ref++[.ref t2]))) ra md (L++[e]) (ts++[t2]) (ws++[p2]):=by
 have hmd:∀ b o,H1 b=some o→b≠md→H3 b=some o:=fun b o h hb=>s b o (by rw [upd_ne hb];exact h)
 have pm:p2≠md:=fun z=>by rw [z,upd_same] at hp;cases hp
 have tm:t2≠md:=fun z=>by rw [z,upd_same] at ht;cases ht
 rw [upd_ne pm] at hp
 rw [upd_ne tm] at ht
 have pr:p2≠ra:=fun z=>by have:=B.rows;rw [← z,hp] at this;cases this
 have tr:t2≠ra:=fun z=>by have:=B.rows;rw [← z,ht] at this;cases this
 have H3md:H3 md=some (.dT (metKV L++[([.inl e.1.1,.inl e.1.2],.bl true)])):=s md _ upd_same
 have s0:Same H H3:=fun b o h=>hmd b o (B.same b o h) (ne_of_none h B.nmd)
 refine ⟨s0.upd_fresh B.nra,by rw [upd_same,List.map_append];rfl,by simp [B.lt],by simp [B.lw],fun i t w f h1 h2 h3=>?_,fun i w f h1 h2=>?_,?_,B.nra,B.nmd,fun b hb=>?_,B.ne,fun b hb=>?_⟩
 ·rcases getElem?_snoc h3 with ⟨hl,h3⟩ | ⟨hl,rfl⟩
  ·rw [List.getElem?_append_left (by rw [B.lt];exact hl)] at h1
   rw [List.getElem?_append_left (by rw [B.lw];exact hl)] at h2
   obtain ⟨o1,o2⟩:=B.out t (List.mem_append_left _ (List.mem_of_getElem? h1))
   rw [upd_ne o1];exact hmd _ _ (B.trip i t w f h1 h2 h3) o2
  ·rcases getElem?_snoc h1 with ⟨h,_⟩ | ⟨_,rfl⟩
   ·rw [B.lt] at h;omega
   ·rcases getElem?_snoc h2 with ⟨h,_⟩ | ⟨_,rfl⟩
    ·rw [B.lw] at h;omega
    ·rw [upd_ne tr];exact ht3
 ·rcases getElem?_snoc h2 with ⟨hl,h2⟩ | ⟨hl,rfl⟩
  ·rw [List.getElem?_append_left (by rw [B.lw];exact hl)] at h1
   obtain ⟨o1,o2⟩:=B.out w (List.mem_append_right _ (List.mem_of_getElem? h1))
   rw [upd_ne o1];exact hmd _ _ (B.word i w f h1 h2) o2
  ·rcases getElem?_snoc h1 with ⟨h,_⟩ | ⟨_,rfl⟩
   ·rw [B.lw] at h;omega
   ·rw [upd_ne pr];exact hp3
 ·rw [upd_ne (Ne.symm B.ne),H3md];unfold metKV;rw [List.map_append];rfl
 ·rcases List.mem_append.mp hb with hb | hb
  ·exact B.nw b hb
  ·rw [List.mem_singleton.mp hb];exact B.same.free hp
 ·have hb:b∈(ts++[t2])++(ws++[p2]):=hb
  simp only [List.mem_append,List.mem_singleton] at hb
  rcases hb with (hb | rfl) | (hb | rfl)
  ·exact B.out b (List.mem_append_left _ hb)
  ·exact ⟨tr,tm⟩
  ·exact B.out b (List.mem_append_right _ hb)
  ·exact ⟨pr,pm⟩
theorem metKV_none {r:PK}:∀ {L:List (PK×List Int)},hasKeyG L r=false→valV (metKV L) [.inl r.1,.inl r.2]=none
 | [],_=>rfl
 | e :: L,h=>by
  have h':¬ e.1=r∧hasKeyG L r=false:=by simpa [hasKeyG] using h
  show valV ((([.inl e.1.1,.inl e.1.2]:List Key),V.bl true) :: metKV L) _=_
  rw [valV_neg (fun z=>h'.1 (by injection z with z1 z2;injection z2 with z2 _;exact Prod.ext (Sum.inl.inj z1) (Sum.inl.inj z2)))]
  exact metKV_none h'.2
theorem metKV_some {r:PK}:∀ {L:List (PK×List Int)},hasKeyG L r=true→(valV (metKV L) [.inl r.1,.inl r.2]).isSome=true
 | [],h=>by simp [hasKeyG] at h
 | e :: L,h=>by
  show (valV ((([.inl e.1.1,.inl e.1.2]:List Key),V.bl true) :: metKV L) _).isSome=_
  by_cases z:e.1=r
  ·rw [valV_pos (by rw [z])];rfl
  ·rw [valV_neg (fun y=>z (by injection y with z1 z2;injection z2 with z2 _;exact Prod.ext (Sum.inl.inj z1) (Sum.inl.inj z2)))]
   exact metKV_some (by simpa [hasKeyG,z] using h)
theorem ok_l_part (T:Txt K mg t):FnOk P w K mg base CX0 1 t.f_l_part t.fd_l_part ["ways","lamps","left","others","lights","right"] (sp_l_part K):=by
 refine T.F_l_part.ok sc_l_part (fun vs H Q E h=>?_) (fun cdv A outer s H vs Q E hr h=>?_)
 ·obtain ⟨aw,rs,rss,al,ls,a,ao,rs2,rss2,ol,ls2,b,d,rfl,_⟩:=h
  rfl
 ·obtain ⟨aw,rs,rss,al,ls,a,ao,rs2,rss2,ol,ls2,b,d,rfl,M,hL,M2,hL2,PI,qn,qs⟩:=h
  refine exO (pssO_cons (ps_set (i:=6) sc_l_part.nd rfl (Or.inl rfl) (pe_lst (pa_cons (pe_lst (pa_cons (pe_lst (pa_nil)) (pa_cons (pv 2) (pa_cons (pv 5) (pa_nil))))) (pa_nil))))
 (pssO_consT (i:=7) hr.units1 sc_l_part.nd rfl (Or.inl rfl) (pe_tup (pa_cons (pv 2) (pa_cons (pv 5) (pa_nil)))) (pe_bl)
 (pss_cons (ps_set (i:=8) sc_l_part.nd rfl (Or.inl rfl) (pe_int))
 (pss_cons (ps_while PassesOwn.never (pt_cmpR op_lt (pv 8) (pe_callB (call_len_seqK K) rfl T.m_len PySem.boot_len (pa_cons (pv 6) (pa_nil))) (nomark _))
 (pss_cons (ps_if (pt_cmpR op_ne (pe_ix (ix_listK K) (pv 1) (pe_ix (ix_listK K) (pe_ix (ix_listK K) (pv 6) (pv 8) (fun _ _=>rfl)) (pe_int) (fun _ _=>rfl)) (fun _ _=>rfl)) (pe_ix (ix_listK K) (pv 4) (pe_ix (ix_listK K) (pe_ix (ix_listK K) (pv 6) (pv 8) (fun _ _=>rfl)) (pe_int) (fun _ _=>rfl)) (fun _ _=>rfl)) (nomark _))
 (pss_one (ps_ret (pe_ix (ix_listK K) (pe_ix (ix_listK K) (pv 6) (pv 8) (fun _ _=>rfl)) (pe_int) (fun _ _=>rfl))))
 (pss_nil))
 (pss_cons (ps_for PassesOwn.never rfl (pi_range1 rfl T.m_range (pa_cons (pe_callB (call_len_seqK K) rfl T.m_len PySem.boot_len (pa_cons (pe_ix (ix_listK K) (pv 0) (pe_int) (fun _ _=>rfl)) (pa_nil))) (pa_nil))) (pg_name (i:=9) sc_l_part.nd rfl (Or.inl rfl))
 (pss_cons (ps_set (i:=10) sc_l_part.nd rfl (Or.inl rfl) (pe_ix (ix_listK K) (pe_ix (ix_listK K) (pv 0) (pe_ix (ix_listK K) (pe_ix (ix_listK K) (pv 6) (pv 8) (fun _ _=>rfl)) (pe_int) (fun _ _=>rfl)) (fun _ _=>rfl)) (pv 9) (fun _ _=>rfl)))
 (pss_cons (ps_set (i:=11) sc_l_part.nd rfl (Or.inl rfl) (pe_ix (ix_listK K) (pe_ix (ix_listK K) (pv 3) (pe_ix (ix_listK K) (pe_ix (ix_listK K) (pv 6) (pv 8) (fun _ _=>rfl)) (pe_int) (fun _ _=>rfl)) (fun _ _=>rfl)) (pv 9) (fun _ _=>rfl)))
 (pss_one (ps_join (ps_if (pt_cmp (pc_dnotin hr.units1 (pe_tup (pa_cons (pv 10) (pa_cons (pv 11) (pa_nil)))) (pv 7)))
 (pss_cons (ps_dput hr.units1 (pv 7) (pe_tup (pa_cons (pv 10) (pa_cons (pv 11) (pa_nil)))) (pe_bl) rfl)
 (pss_one (ps_expr (pe_bmK K PySem.F.plainAttrs_list PySem.F.slot_list_append PySem.F.type_list_append mt_append (pv 6) (pa_cons (pe_lst (pa_cons (pe_op op_cat (pe_ix (ix_listK K) (pe_ix (ix_listK K) (pv 6) (pv 8) (fun _ _=>rfl)) (pe_int) (fun _ _=>rfl)) (pe_lst (pa_cons (pv 9) (pa_nil)))) (pa_cons (pv 10) (pa_cons (pv 11) (pa_nil))))) (pa_nil))))))
 (pss_nil)))))))
 (pss_one (ps_set (i:=8) sc_l_part.nd rfl (Or.inl rfl) (pe_op op_add (pv 8) (pe_int)))))))
 (pss_one (ps_ret (pe_non))))))) ?_
  have hP0:walkG (stP rss rss2) (a,b) []=(a,b):=rfl
  walk_at "w";refine ⟨Nat.zero_le _,fun w0 hw0=>?_⟩
  walk_at "w";refine ⟨by show 3≤sizeLine;decide,fun t0 ht0=>?_⟩
  walk_at "w";refine ⟨by show 1≤sizeLine;decide,fun ra hra=>?_⟩
  walk_at "w";intro md hmd
  walk_at "w";refine ⟨by show 2≤sizeLine;decide,fun tp htp=>?_⟩
  walk_at "w";have n_wt:w0≠t0:=fun z=>by rw [← z,upd_same] at ht0;cases ht0
  have n_tr:t0≠ra:=fun z=>by rw [← z,upd_same] at hra;cases hra
  have n_rm:ra≠md:=fun z=>by rw [← z,upd_same] at hmd;cases hmd
  have n_mt:md≠tp:=fun z=>by rw [← z,upd_same] at htp;cases htp
  have f_t0:H t0=none:=by rw [upd_ne (Ne.symm n_wt)] at ht0;exact ht0
  have f_ra:H ra=none∧ra≠w0:=by
   rw [upd_ne (Ne.symm n_tr)] at hra
   have:ra≠w0:=fun z=>by rw [z,upd_same] at hra;cases hra
   rw [upd_ne this] at hra;exact ⟨hra,this⟩
  have f_md:H md=none∧md≠t0∧md≠w0:=by
   rw [upd_ne (Ne.symm n_rm)] at hmd
   have h1:md≠t0:=fun z=>by rw [z,upd_same] at hmd;cases hmd
   rw [upd_ne h1] at hmd
   have h2:md≠w0:=fun z=>by rw [z,upd_same] at hmd;cases hmd
   rw [upd_ne h2] at hmd;exact ⟨hmd,h1,h2⟩
  refine ⟨tp,[.inl a,.inl b],rfl,upd_same,by rw [upd_ne n_mt];exact upd_same,?_⟩
  have f_tp:H tp=none:=by
   have:=htp
   rw [upd_ne (Ne.symm n_mt)] at this
   exact (((Same.upd_new hw0).trans (Same.upd_new ht0)).trans (Same.upd_new hra)).free this
  have B0:PB H (upd (upd (upd (upd (upd (upd H w0 (.lst [])) t0 (.lst [.ref w0,.int a,.int b])) ra (.lst [.ref t0])) md (.dT [])) tp (.tup [.int a,.int b])) md (.dT [([.inl a,.inl b],.bl true)])) ra md [((a,b),[])] [t0] [w0]:=by
   have n_rtp:ra≠tp:=fun z=>by rw [← z,upd_ne n_rm,upd_same] at htp;cases htp
   have n_ttp:t0≠tp:=fun z=>by rw [← z,upd_ne (Ne.symm f_md.2.1),upd_ne n_tr,upd_same] at htp;cases htp
   have n_wtp:w0≠tp:=fun z=>by rw [← z,upd_ne (Ne.symm f_md.2.2),upd_ne (Ne.symm f_ra.2),upd_ne n_wt,upd_same] at htp;cases htp
   refine ⟨((((((Same.upd_new hw0).upd_fresh f_t0).upd_fresh f_ra.1).upd_fresh f_md.1).upd_fresh f_tp).upd_fresh f_md.1),?_,rfl,rfl,fun i t w e h1 h2 h3=>?_,fun i w e h1 h2=>?_,upd_same,f_ra.1,f_md.1,fun b hb=>by rw [List.mem_singleton.mp hb];exact hw0,n_rm,fun b hb=>?_⟩
   ·rw [upd_ne n_rm,upd_ne n_rtp,upd_ne n_rm,upd_same];rfl
   ·cases i with
    | zero =>
     cases h1;cases h2;cases h3
     rw [upd_ne (Ne.symm f_md.2.1),upd_ne n_ttp,upd_ne (Ne.symm f_md.2.1),upd_ne n_tr,upd_same]
    | succ i=>simp at h1
   ·cases i with
    | zero =>
     cases h1;cases h2
     rw [upd_ne (Ne.symm f_md.2.2),upd_ne n_wtp,upd_ne (Ne.symm f_md.2.2),upd_ne (Ne.symm f_ra.2),upd_ne n_wt,upd_same];rfl
    | succ i=>simp at h1
   ·have hb:b=t0∨b=w0:=by simpa using hb
    rcases hb with rfl | rfl
    ·exact ⟨n_tr,Ne.symm f_md.2.1⟩
    ·exact ⟨Ne.symm f_ra.2,Ne.symm f_md.2.2⟩
  generalize upd (upd (upd (upd (upd (upd H w0 (.lst [])) t0 (.lst [.ref w0,.int a,.int b])) ra (.lst [.ref t0])) md (.dT [])) tp (.tup [.int a,.int b])) md (.dT [([.inl a,.inl b],.bl true)])=H0 at B0 ⊢
  walk_at "w";have hW1:=PI.w1
  have hW2:=PI.w2
  have hd1:=PI.d1
  have hd6:=PI.d6
  have hsz:=PI.sz
  have inR:∀ {w:List Int},WordOk d w→(0≤walkI rss a w∧walkI rss a w < rss.length)∧(0≤walkI rss2 b w∧walkI rss2 b w < rss2.length):=fun {w} ok=>⟨walkI_in hW1 ok PI.a0 PI.a1,walkI_in hW2 ok PI.b0 PI.b1⟩
  have keyR:∀ {k j:Nat} {L:List (PK×List Int)},BIG (stP rss rss2) (a,b) d k j L→∀ e∈L,(0≤e.1.1∧e.1.1 < rss.length)∧(0≤e.1.2∧e.1.2 < rss2.length):=fun {k j L} B e he=>by
   obtain ⟨h1,h2⟩:=B.ok e he
   rw [walkP] at h2
   have:=inR h1
   rw [← h2];exact this
  have lenR:∀ {k j:Nat} {L:List (PK×List Int)},BIG (stP rss rss2) (a,b) d k j L→L.length≤rss.length * rss2.length:=fun {k j L} B=>by
   have h:=nodup_le (rss.length * rss2.length) (L.map fun e=>e.1.1.toNat * rss2.length+e.1.2.toNat) ?_ ?_
   ·simpa using h
   ·rw [List.nodup_iff_pairwise_ne,List.pairwise_map]
    have hnd:=List.nodup_iff_pairwise_ne.mp B.nd
    rw [List.pairwise_map] at hnd
    refine hnd.imp_of_mem fun {e f} he hf hef z=>hef ?_
    obtain ⟨⟨e1,e2⟩,e3,e4⟩:=keyR B e he
    obtain ⟨⟨f1,f2⟩,f3,f4⟩:=keyR B f hf
    have h2:e.1.2.toNat < rss2.length:=by omega
    have h4:f.1.2.toNat < rss2.length:=by omega
    have hm:e.1.2.toNat=f.1.2.toNat:=by
     have:=congrArg (· % rss2.length) z
     simpa [Nat.mul_add_mod_of_lt,Nat.add_mod,Nat.mod_eq_of_lt h2,Nat.mod_eq_of_lt h4] using this
    have hq:e.1.1.toNat=f.1.1.toNat:=by
     rw [hm] at z
     have z':e.1.1.toNat * rss2.length=f.1.1.toNat * rss2.length:=by omega
     exact Nat.eq_of_mul_eq_mul_right (by omega) z'
    exact Prod.ext (by omega) (by omega)
   ·intro x hx
    obtain ⟨e,he,rfl⟩:=List.mem_map.mp hx
    obtain ⟨⟨e1,e2⟩,e3,e4⟩:=keyR B e he
    have h1:e.1.1.toNat+1≤rss.length:=by omega
    have h2:e.1.2.toNat < rss2.length:=by omega
    calc e.1.1.toNat * rss2.length+e.1.2.toNat < e.1.1.toNat * rss2.length+rss2.length:=by omega
     _=(e.1.1.toNat+1) * rss2.length:=by rw [Nat.succ_mul]
     _≤rss.length * rss2.length:=Nat.mul_le_mul_right _ h1
  refine ⟨fun m σ H'=>∃ (k:Nat) (L:List (PK×List Int)) (ts ws:List Addr) (k9 k10 k11:Option V),m=rss.length * rss2.length - k∧k≤L.length∧BIG (stP rss rss2) (a,b) d k 0 L∧(∀ (i:Nat) (e:PK×List Int),i < k→L[i]?=some e→lampI ls e.1.1=lampI ls2 e.1.2)∧PB H H' ra md L ts ws ∧
   σ=[some (.ref aw),some (.ref al),some (.int a),some (.ref ao),some (.ref ol),some (.int b),some (.ref ra),some (.ref md),some (.int (k:Int)),k9,k10,k11],⟨_,0,_,[t0],[w0],none,none,none,rfl,Nat.zero_le _,BIG.start _ _ _,(fun i e hi=>absurd hi (Nat.not_lt_zero i)),B0,rfl⟩,?_⟩
  rintro m σ H1 ⟨k,L,ts,ws,k9,k10,k11,rfl,hk,BG,eqs,B,rfl⟩
  have hlen:=lenR BG
  walk_at "w";refine ⟨ra,_,rfl,.inl (SqL.of B.rows),?_⟩
  rw [List.length_map,B.lt]
  walk_at "w";refine r_ite (fun hc=>?_) (fun hc=>?_)
  ·have hc:k < L.length:=by have:=of_decide_eq_true hc;omega
   obtain ⟨e,he⟩:∃ e,L[k]?=some e:=⟨_,List.getElem?_eq_getElem hc⟩
   obtain ⟨tk,htk⟩:∃ tk,ts[k]?=some tk:=⟨_,List.getElem?_eq_getElem (by rw [B.lt];exact hc)⟩
   obtain ⟨wk,hwk⟩:∃ wk,ws[k]?=some wk:=⟨_,List.getElem?_eq_getElem (by rw [B.lw];exact hc)⟩
   have htk':(ts.map V.ref)[k]?=some (.ref tk):=by rw [List.getElem?_map,htk];rfl
   obtain ⟨⟨e1,e2⟩,e3,e4⟩:=keyR BG e (List.mem_of_getElem? he)
   have hel:=BG.wlen k k e (Nat.le_refl _) he
   have gl1:(ls.map V.bl)[e.1.1.toNat]?=some (.bl (lampI ls e.1.1)):=by
    have hlt:e.1.1.toNat < ls.length:=by rw [PI.l1];omega
    unfold lampI
    rw [List.getElem?_map,List.getElem?_eq_getElem hlt,List.getD_eq_getElem?_getD,List.getElem?_eq_getElem hlt];rfl
   have gl2:(ls2.map V.bl)[e.1.2.toNat]?=some (.bl (lampI ls2 e.1.2)):=by
    have hlt:e.1.2.toNat < ls2.length:=by rw [PI.l2];omega
    unfold lampI
    rw [List.getElem?_map,List.getElem?_eq_getElem hlt,List.getD_eq_getElem?_getD,List.getElem?_eq_getElem hlt];rfl
   refine ⟨fun σ' H'=>∃ (L':List (PK×List Int)) (ts ws:List Addr) (k9 k10 k11:Option V),k+1≤L'.length∧BIG (stP rss rss2) (a,b) d (k+1) 0 L'∧(∀ (i:Nat) (f:PK×List Int),i < k+1→L'[i]?=some f→lampI ls f.1.1=lampI ls2 f.1.2)∧PB H H' ra md L' ts ws ∧
    σ'=[some (.ref aw),some (.ref al),some (.int a),some (.ref ao),some (.ref ol),some (.int b),some (.ref ra),some (.ref md),some (.int ((k:Int)+1)),k9,k10,k11],fun σ' H' ⟨L',ts,ws,k9,k10,k11,h1,h2,h3,h4,es⟩=>⟨rss.length * rss2.length - (k+1),by omega,k+1,L',ts,ws,k9,k10,k11,rfl,h1,h2,h3,h4,by rw [es];simp⟩,?_⟩
   walk_at "w";refine r_ixL (SqL.of B.rows) (atI_nat (j:=k) htk') ?_
   walk_at "w";refine r_ixL (SqL.of (B.trip k tk wk e htk hwk he)) (atI_nat (j:=1) rfl) ?_
   walk_at "w";refine r_ixL (sqL_same B.same hL) (atI_get' e1 gl1) ?_
   walk_at "w";refine r_ixL (SqL.of B.rows) (atI_nat (j:=k) htk') ?_
   walk_at "w";refine r_ixL (SqL.of (B.trip k tk wk e htk hwk he)) (atI_nat (j:=2) rfl) ?_
   walk_at "w";refine r_ixL (sqL_same B.same hL2) (atI_get' e3 gl2) ?_
   refine r_ne rfl ?_
   walk_at "w";refine r_ite (fun hne=>?_) (fun heq=>?_)
   ·have hne:lampI ls e.1.1≠lampI ls2 e.1.2:=by intro z;rw [z] at hne;simp at hne
    walk_at "w";refine r_ixL (SqL.of B.rows) (atI_nat (j:=k) htk') ?_
    walk_at "w";refine r_ixL (SqL.of (B.trip k tk wk e htk hwk he)) (atI_nat (j:=0) rfl) ?_
    walk_at "w";obtain ⟨o1,o2⟩:=BG.ok e (List.mem_of_getElem? he)
    rw [walkP] at o2
    refine qs H1 wk e.2 B.same (B.word k wk e hwk he) (B.nw wk (List.mem_of_getElem? hwk)) ⟨o1,?_,fun v okv hv=>?_⟩
    ·rw [← o2] at hne;exact hne
    ·obtain ⟨i,f,hi,hL',hf,_⟩:=BG.below e he v.length v (Nat.le_refl _) okv hv
     rw [walkP] at hf
     have:=eqs i f hi hL'
     rw [hf] at this
     exact this
   ·have heq:lampI ls e.1.1=lampI ls2 e.1.2:=by simpa using heq
    walk_at "w";have h0:0 < rss.length:=by have:=PI.a0;have:=PI.a1;omega
    obtain ⟨row0,hrow0⟩:∃ row0,rss[0]?=some row0:=⟨_,List.getElem?_eq_getElem h0⟩
    obtain ⟨hrl0,_⟩:=hW1.row row0 (List.mem_of_getElem? hrow0)
    obtain ⟨r0,_,x2,x3⟩:=(M.same B.same).get hrow0
    refine r_ixL (SqL.of (B.same _ _ M.top)) (atI_nat (j:=0) x2) ?_
    walk_at "w";refine ⟨r0,_,rfl,.inl (SqL.of x3),?_⟩
    rw [List.length_map]
    walk_at "w";refine ⟨_,rfl,by omega,by omega,?_⟩
    refine for_range (fun j σ H'=>∃ (L':List (PK×List Int)) (ts ws:List Addr) (k9 k10 k11:Option V),BIG (stP rss rss2) (a,b) d k j L'∧(∀ i,i < L.length→L'[i]?=L[i]?)∧L.length≤L'.length∧PB H H' ra md L' ts ws ∧
     σ=[some (.ref aw),some (.ref al),some (.int a),some (.ref ao),some (.ref ol),some (.int b),some (.ref ra),some (.ref md),some (.int (k:Int)),k9,k10,k11]) ⟨L,ts,ws,k9,k10,k11,BG,fun _ _=>rfl,Nat.le_refl _,B,rfl⟩ (fun j σ H2 hj ⟨L',ts',ws',q9,q10,q11,BG',hpre,hle,B',hσ⟩=>?_) (fun σ H2 ⟨L',ts',ws',q9,q10,q11,BG',hpre,hle,B',hσ⟩=>?_)
    ·subst hσ
     have hjd:(j:Int) < d:=by omega
     have e0:(0:Int)+(j:Int)=(j:Int):=by omega
     rw [e0]
     have he':L'[k]?=some e:=by rw [hpre k hc];exact he
     have hlen':=lenR BG'
     obtain ⟨tk',htk1⟩:∃ tk,ts'[k]?=some tk:=⟨_,List.getElem?_eq_getElem (by rw [B'.lt];omega)⟩
     obtain ⟨wk',hwk1⟩:∃ wk,ws'[k]?=some wk:=⟨_,List.getElem?_eq_getElem (by rw [B'.lw];omega)⟩
     have htk2:(ts'.map V.ref)[k]?=some (.ref tk'):=by rw [List.getElem?_map,htk1];rfl
     obtain ⟨row1,hr1,hv1,_,_⟩:=step_in hW1 e1 e2 (x:=(j:Int)) (by omega) hjd
     obtain ⟨row2,hr2,hv2,_,_⟩:=step_in hW2 e3 e4 (x:=(j:Int)) (by omega) hjd
     obtain ⟨ra1,_,y2,y3⟩:=(M.same B'.same).get hr1
     obtain ⟨ra2,_,z2,z3⟩:=(M2.same B'.same).get hr2
     walk_at "w";refine r_ixL (SqL.of B'.rows) (atI_nat (j:=k) htk2) ?_
     walk_at "w";refine r_ixL (SqL.of (B'.trip k tk' wk' e htk1 hwk1 he')) (atI_nat (j:=1) rfl) ?_
     walk_at "w";refine r_ixL (SqL.of (B'.same _ _ M.top)) (atI_get' e1 y2) ?_
     walk_at "w";refine r_ixL (SqL.of y3) (atI_get' (by omega) (int_map_get hv1)) ?_
     walk_at "w";refine r_ixL (SqL.of B'.rows) (atI_nat (j:=k) htk2) ?_
     walk_at "w";refine r_ixL (SqL.of (B'.trip k tk' wk' e htk1 hwk1 he')) (atI_nat (j:=2) rfl) ?_
     walk_at "w";refine r_ixL (SqL.of (B'.same _ _ M2.top)) (atI_get' e3 z2) ?_
     walk_at "w";refine r_ixL (SqL.of z3) (atI_get' (by omega) (int_map_get hv2)) ?_
     walk_at "w";generalize hto:step rss e.1.1 (j:Int)=to
     generalize hgo:step rss2 e.1.2 (j:Int)=go
     have hst:(to,go)=stP rss rss2 e.1 (j:Int):=by rw [← hto,← hgo];rfl
     have BA:=BG'.add he' hjd hst
     refine r_join (fun σ' H3=>∃ ts ws,PB H H3 ra md (addDoorG L' e.2 j (to,go)) ts ws∧σ'=[some (.ref aw),some (.ref al),some (.int a),some (.ref ao),some (.ref ol),some (.int b),some (.ref ra),some (.ref md),some (.int (k:Int)),some (.int (j:Int)),some (.int to),some (.int go)]) ?_ (fun σ' H3 ⟨ts3,ws3,B3,es⟩=>⟨_,ts3,ws3,_,_,_,BA,fun i hi=>?_,?_,B3,es⟩)
     rotate_left
     ·unfold addDoorG
      split
      ·exact hpre i hi
      ·rw [List.getElem?_append_left (by omega)];exact hpre i hi
     ·unfold addDoorG
      split
      ·exact hle
      ·simp;omega
     walk_at "w";refine ⟨by show 2≤sizeLine;decide,fun tp1 htp1=>?_⟩
     have B1:=B'.tick (Same.upd_new (o:=.tup [.int to,.int go]) htp1)
     have tp1v:(upd H2 tp1 (.tup [.int to,.int go])) tp1=some (.tup (([.inl to,.inl go]:List Key).map kV)):=upd_same
     generalize upd H2 tp1 (.tup [.int to,.int go])=H3 at B1 tp1v ⊢
     walk_at "w";refine ⟨md,_,rfl,DGet.t B1.met tp1v,?_⟩
     walk_at "w";refine r_ite (fun hin=>?_) (fun hin=>?_)
     ·have hnk:hasKeyG L' (to,go)=false:=by
       cases hz:hasKeyG L' (to,go) with
       | false=>rfl
       | true=>rw [metKV_some hz] at hin;cases hin
      walk_at "w";refine ⟨by show 2≤sizeLine;decide,fun tp2 htp2=>?_⟩
      have B2:=B1.tick (Same.upd_new (o:=.tup [.int to,.int go]) htp2)
      have tp2v:(upd H3 tp2 (.tup [.int to,.int go])) tp2=some (.tup (([.inl to,.inl go]:List Key).map kV)):=upd_same
      generalize upd H3 tp2 (.tup [.int to,.int go])=H4 at B2 tp2v ⊢
      refine ⟨md,_,rfl,DPut.t B2.met tp2v (by unfold metKV;rw [List.length_map];exact Nat.lt_of_le_of_lt (show _≤100000 by omega) (by decide)),?_⟩
      rw [putK_new _ (metKV_none hnk)]
      have rows5:(upd H4 md (.dT (metKV L'++[([.inl to,.inl go],.bl true)]))) ra=some (.lst (ts'.map V.ref)):=by rw [upd_ne B2.ne];exact B2.rows
      have trip5:(upd H4 md (.dT (metKV L'++[([.inl to,.inl go],.bl true)]))) tk'=some (.lst [.ref wk',.int e.1.1,.int e.1.2]):=by rw [upd_ne (B2.out tk' (List.mem_append_left _ (List.mem_of_getElem? htk1))).2];exact B2.trip k tk' wk' e htk1 hwk1 he'
      have word5:(upd H4 md (.dT (metKV L'++[([.inl to,.inl go],.bl true)]))) wk'=some (.lst (e.2.map V.int)):=by rw [upd_ne (B2.out wk' (List.mem_append_right _ (List.mem_of_getElem? hwk1))).2];exact B2.word k wk' e hwk1 he'
      have addB:=fun H9 p2 t2=>PB.add (H3:=H9) (p2:=p2) (t2:=t2) (e:=((to,go),e.2++[(j:Int)])) B2
      generalize upd H4 md (.dT (metKV L'++[([.inl to,.inl go],.bl true)]))=H5 at rows5 trip5 word5 addB ⊢
      walk_at "w";refine ⟨.inl ⟨rfl,_,SqL.of rows5⟩,?_⟩
      walk_at "w";refine r_ixL (SqL.of rows5) (atI_nat (j:=k) htk2) ?_
      walk_at "w";refine r_ixL (SqL.of trip5) (atI_nat (j:=0) rfl) ?_
      walk_at "w";refine ⟨by show 1≤sizeLine;decide,fun p1 hp1=>?_⟩
      have s1:=Same.upd_new (o:=.lst [.int (j:Int)]) hp1
      refine ⟨wk',p1,_,_,rfl,rfl,s1 _ _ word5,upd_same,(by rw [List.length_map];show e.2.length+1≤sizeLine;exact Nat.le_trans (show _≤200000 by omega) (by decide)),fun p2 hp2=>?_⟩
      have s2:=s1.trans (Same.upd_new (o:=.lst (e.2.map V.int++[.int (j:Int)])) hp2)
      have hp2':=s1.free hp2
      have hp2v:(upd (upd H5 p1 (.lst [.int (j:Int)])) p2 (.lst (e.2.map V.int++[.int (j:Int)]))) p2=some (.lst ((e.2++[(j:Int)]).map V.int)):=by rw [upd_same];simp
      generalize upd (upd H5 p1 (.lst [.int (j:Int)])) p2 (.lst (e.2.map V.int++[.int (j:Int)]))=H6 at s2 hp2v ⊢
      walk_at "w";refine ⟨by show 3≤sizeLine;decide,fun t2 ht2=>?_⟩
      have s3:=s2.trans (Same.upd_new (o:=.lst [.ref p2,.int to,.int go]) ht2)
      have ht2':=s2.free ht2
      walk_at "w";refine ⟨ra,_,_,rfl,rfl,s3 _ _ rows5,(by rw [List.length_map,B2.lt];exact Nat.lt_of_le_of_lt (show _≤100000 by omega) (by decide)),?_⟩
      refine ⟨ts'++[t2],ws'++[p2],?_,rfl⟩
      unfold addDoorG
      rw [if_neg (by rw [hnk];decide)]
      exact addB _ p2 t2 s3 hp2' ht2' (by rw [upd_ne (ne_of_none hp2v ht2)];exact hp2v) upd_same
     ·have hyk:hasKeyG L' (to,go)=true:=by
       cases hz:hasKeyG L' (to,go) with
       | true=>rfl
       | false=>rw [metKV_none hz] at hin;cases hin
      walk_at "w";refine ⟨ts',ws',?_,rfl⟩
      unfold addDoorG
      rw [if_pos hyk]
      exact B1
    ·subst hσ
     walk_at "w";have hjd:((row0.length:Nat):Int).toNat=d.toNat:=by omega
     rw [hjd] at BG'
     refine ⟨L',ts',ws',_,_,_,by omega,BG'.next,fun i f hi hf=>?_,B',rfl⟩
     rw [hpre i (by omega)] at hf
     rcases Nat.lt_or_ge i k with h | h
     ·exact eqs i f h hf
     ·have:i=k:=by omega
      subst this
      rw [he] at hf;cases hf;exact heq
  ·have hc:¬ ((k:Int) < (L.length:Int)):=of_decide_eq_false hc
   have hkl:k=L.length:=by omega
   subst hkl
   walk_at "w";refine qn H1 B.same fun w ok=>?_
   obtain ⟨f,hf,hk,_⟩:=BG.all w.length w (Nat.le_refl _) ok
   rw [walkP] at hk
   obtain ⟨i,hi⟩:=List.getElem?_of_mem hf
   have:=eqs i f (List.getElem?_eq_some_iff.mp hi).1 hi
   rw [hk] at this
   exact this
theorem sc_l_stands_under:FnScope ["e"] ["e"] (defScope s_l_stands_under):=⟨rfl,rfl,rfl,by decide +kernel,rfl,by decide +kernel,by decide +kernel⟩
theorem b_l_stands_under (T:Txt K mg t):Binds K t.fd_l_stands_under ["e"] []:=T.F_l_stands_under.binds fun _ _ _ _ _ _ us hl=>by obtain ⟨_,rfl⟩:=len_1 hl;rfl
def sp_l_stands_under (K:PySem.W.Frag) (CH:Addr):Sp:=fun vs H Q _=>∃ (ea C:Addr) (x:Str),vs=[.ref ea]∧H ea=some (.ext (ExcAt ea C))∧ExcK K x C∧PySem.W.kitOne K (.ref C) (.ref CH)=some true∧PySem.W.kitOne K (.ref C) (.type "ValueError")=some true∧Q (.bl true) H
theorem ok_l_stands_under (T:Txt K mg t):FnOkH P w K mg base CX0 1 t.f_l_stands_under t.fd_l_stands_under ["e"] (sp_l_stands_under K t.C_HouseError):=by
 refine T.F_l_stands_under.okH sc_l_stands_under (fun vs H Q E h=>?_) (fun cdv A outer s H vs Q E hr h=>?_)
 ·obtain ⟨ea,C,x,rfl,_⟩:=h
  rfl
 ·obtain ⟨ea,C,x,rfl,he,O,k1,k2,q⟩:=h
  refine ⟨_,pss_one (ps_ret (pe_and (pe_callB (call_isinstX K) rfl T.m_isinstance boot_isinstance (pa_cons (pv 0) (pa_cons (pe_glob (v:=.ref _) rfl T.mg_HouseError rfl) (pa_nil)))) (pe_one (pe_callB (call_isinstX K) rfl T.m_isinstance boot_isinstance (pa_cons (pv 0) (pa_cons (pe_bltn (v:=.ty "ValueError") (u:=.type "ValueError") rfl T.m_ValueError (by decide +kernel) rfl) (pa_nil))))))),?_⟩
  walk_at "w";refine ⟨ea,C,x,_,_,true,rfl,he,O,rfl,k1,?_⟩
  walk_at "w";refine r_iteP rfl ?_
  walk_at "w";exact ⟨ea,C,x,_,_,true,rfl,he,O,rfl,k2,q⟩
theorem sc_l_do:FnScope ["learner","what","word","lit"] ["learner","what","word","lit"] (defScope s_l_do):=⟨rfl,rfl,rfl,by decide +kernel,rfl,by decide +kernel,by decide +kernel⟩
theorem b_l_do (T:Txt K mg t):Binds K t.fd_l_do ["learner","what","word","lit"] []:=T.F_l_do.binds fun _ _ _ _ _ _ us hl=>by obtain ⟨_,_,_,_,rfl⟩:=len_4 hl;rfl
def Due (d:Int) (kn:Bk) (heads tails:List (List Int)) (what:Int) (ws:List Int) (lit:Bool) (k:Nat):Prop :=
 (what=0∧nextQ d kn heads tails=none∧k=0)∨((what=1∨what=2)∧nextQ d kn heads tails≠none∧k=1) ∨
 (what=2∧nextQ d kn heads tails=none∧(¬ WordOk d ws∧k=2∨WordOk d ws∧saidO kn ws=some (!lit)∧k=3∨WordOk d ws∧saidO kn ws≠some (!lit)∧lampW (guessW d kn heads tails) (guessL kn heads) ws=lit∧k=4)) ∨
 ((what=3∨what=4)∧k=5∧∃ o,ws=[o]∧¬ (1≤o∧o≤6))
def cOf (t:Adr) (k:Nat):Addr:=if k=0 then t.C_NotAsked else if k=1 then t.C_NotYet else if k=2 then t.C_BadWord else if k=3 then t.C_SaidOtherwise else if k=4 then t.C_NotWrong else t.C_BadHouse
structure Ref (t:Adr) (H:Hp) (lp:Addr) (d:Int) (L:LA) (kn:Bk) (heads tails:List (List Int)) (what:Int) (wb:Addr) (ws:List Int) (lit:Bool) (k:Nat):Prop where
 S:LS t.C_Learner t.C_Book H lp d L kn heads tails
 sm:Small heads tails kn
 kl:kn.length < 100000
 d1:1≤d
 d6:d≤6
 hw:H wb=some (.lst (ws.map V.int))
 nw:wb∉ownL lp L
 sw:SmallW ws
 w9:ws.length≤900
 due:Due d kn heads tails what ws lit k
def sp_l_do (K:PySem.W.Frag) (t:Adr):Sp:=fun vs H Q E=>∃ (lp:Addr) (d:Int) (L:LA) (kn:Bk) (heads tails:List (List Int)) (what:Int) (wb:Addr) (ws:List Int) (lit:Bool) (k:Nat),vs=[.ref lp,.int what,.ref wb,.bl lit]∧Ref t H lp d L kn heads tails what wb ws lit k ∧
 ∀ H',LS t.C_Learner t.C_Book H' lp d L kn heads tails→LStep lp L L H H'→E (.ref (cOf t k)) none H'
theorem ok_l_do (T:Txt K mg t):FnOk P w K mg base (CXr P w) 9 t.f_l_do t.fd_l_do ["learner","what","word","lit"] (sp_l_do K t):=by
 refine T.F_l_do.okX sc_l_do (fun vs H Q E h=>?_) (fun cdv A outer s H vs Q E hr h=>?_)
 ·obtain ⟨lp,d,L,kn,heads,tails,what,wb,ws,lit,k,rfl,_⟩:=h
  rfl
 ·obtain ⟨lp,d,L,kn,heads,tails,what,wb,ws,lit,k,rfl,R,qe⟩:=h
  have D:=R.due
  unfold Due at D
  obtain ⟨rows,f,lr,Rw⟩:=R.S.ex
  obtain ⟨dx,fs,ho,hf⟩:=lr.ob
  refine ⟨_,pss_cons (ps_join (ps_if (pt_cmpR op_eq (pv 1) (pe_int) (nomark _))
 (pss_one (ps_expr (pe_meth (pv 0) T.cl_Learner T.me_Learner_answer (ok_Learner_answer T) (hr.mono (by decide)) (b_Learner_answer T) .nil xp_def.pass (pa_cons (pv 3) (pa_nil)))))
 (pss_nil)))
 (pss_cons (ps_join (ps_if (pt_cmpR op_eq (pv 1) (pe_int) (nomark _))
 (pss_one (ps_expr (pe_meth0 (pv 0) T.cl_Learner T.me_Learner_guess (ok_Learner_guess T) (hr.mono (by decide)) (b_Learner_guess T) .nil xp_def.pass)))
 (pss_nil)))
 (pss_cons (ps_join (ps_if (pt_cmpR op_eq (pv 1) (pe_int) (nomark _))
 (pss_one (ps_expr (pe_meth (pv 0) T.cl_Learner T.me_Learner_wrong (ok_Learner_wrong T) (hr.mono (by decide)) (b_Learner_wrong T) .nil xp_def.pass (pa_cons (pv 2) (pa_cons (pv 3) (pa_nil))))))
 (pss_nil)))
 (pss_cons (ps_join (ps_if (pt_cmpR op_eq (pv 1) (pe_int) (nomark _))
 (pss_one (ps_expr (pe_make T.mk_Learner (ok_Learner_init T) (hr.mono (by decide)) rfl T.mg_Learner (b_Learner_init T) .nil xp_def.pass (pa_cons (pe_ix (ix_listK K) (pv 2) (pe_int) (fun _ _=>rfl)) (pa_nil)))))
 (pss_nil)))
 (pss_one (ps_join (ps_if (pt_cmpR op_eq (pv 1) (pe_int) (nomark _))
 (pss_one (ps_expr (pe_make T.mk_Book (ok_Book_init T) (hr.mono (by decide)) rfl T.mg_Book (b_Book_init T) .nil xp_def.pass (pa_cons (pe_ix (ix_listK K) (pv 2) (pe_int) (fun _ _=>rfl)) (pa_nil)))))
 (pss_nil))))))),?_⟩
  walk_at "w";refine r_join (fun σ' H'=>H=H'∧what≠0∧σ'=[some (.ref lp),some (.int what),some (.ref wb),some (.bl lit)]) ?_ ?_
  ·walk_at "w";refine r_eq rfl ?_
   walk_at "w";refine r_ite (fun hc=>?_) (fun hc=>?_)
   ·have hc:what=0:=by simpa using hc
    subst hc
    have hq:nextQ d kn heads tails=none∧k=0:=by
     rcases D with h | h | h | h
     ·exact h.2
     ·omega
     ·omega
     ·omega
    obtain ⟨hq,rfl⟩:=hq
    walk_at "w";refine ⟨lp,dx,_,rfl,ho,hf.no _ (by decide +kernel),?_⟩
    walk_at "w";refine ⟨lp,d,L,kn,heads,tails,lit,rfl,R.S,R.sm,R.kl,R.d1,R.d6,(fun w hq'=>by rw [hq] at hq';cases hq'),fun _ H' S' st=>qe H' S' st⟩
   ·walk_at "w";exact ⟨rfl,by simpa using hc,rfl⟩
  rintro σ' H' ⟨rfl,n0,rfl⟩
  walk_at "w";refine r_join (fun σ' H'=>H=H'∧what≠1∧σ'=[some (.ref lp),some (.int what),some (.ref wb),some (.bl lit)]) ?_ ?_
  ·walk_at "w";refine r_eq rfl ?_
   walk_at "w";refine r_ite (fun hc=>?_) (fun hc=>?_)
   ·have hc:what=1:=by simpa using hc
    subst hc
    have hq:nextQ d kn heads tails≠none∧k=1:=by
     rcases D with h | h | h | h
     ·omega
     ·exact h.2
     ·omega
     ·omega
    obtain ⟨hq,rfl⟩:=hq
    walk_at "w";refine ⟨lp,dx,_,rfl,ho,hf.no _ (by decide +kernel),?_⟩
    refine ⟨lp,d,L,kn,heads,tails,rfl,R.S,R.sm,R.d1,R.d6,fun Cl=>absurd Cl.q hq,fun _ H' S' st=>qe H' S' st⟩
   ·walk_at "w";exact ⟨rfl,by simpa using hc,rfl⟩
  rintro σ' H' ⟨rfl,n1,rfl⟩
  walk_at "w";refine r_join (fun σ' H'=>H=H'∧what≠2∧σ'=[some (.ref lp),some (.int what),some (.ref wb),some (.bl lit)]) ?_ ?_
  ·walk_at "w";refine r_eq rfl ?_
   walk_at "w";refine r_ite (fun hc=>?_) (fun hc=>?_)
   ·have hc:what=2:=by simpa using hc
    subst hc
    walk_at "w";refine ⟨lp,dx,_,rfl,ho,hf.no _ (by decide +kernel),?_⟩
    walk_at "w";refine ⟨lp,d,L,kn,heads,tails,wb,ws,lit,rfl,R.S,R.sm,R.kl,R.d1,R.d6,R.hw,R.nw,R.sw,R.w9,fun hq hwo hno hlm=>?_,fun hq H' S' st=>?_,fun hq hwo H' S' st=>?_,fun hq hwo hs H' S' st=>?_,fun hq hwo hs hl H' S' st=>?_⟩
    ·exfalso
     rcases D with h | h | h | h
     ·omega
     ·exact h.2.1 hq
     ·rcases h.2.2 with h | h | h
      ·exact h.1 hwo
      ·rw [hno] at h;cases h.2.1
      ·rw [hlm] at h;cases lit <;> simp at h
     ·omega
    ·have e:k=1:=by
      rcases D with h | h | h | h
      ·omega
      ·exact h.2.2
      ·exact absurd h.2.1 hq
      ·omega
     subst e
     exact qe H' S' st
    ·have e:k=2:=by
      rcases D with h | h | h | h
      ·omega
      ·exact absurd hq h.2.1
      ·rcases h.2.2 with h | h | h
       ·exact h.2
       ·exact absurd h.1 hwo
       ·exact absurd h.1 hwo
      ·omega
     subst e
     exact qe H' S' st
    ·have e:k=3:=by
      rcases D with h | h | h | h
      ·omega
      ·exact absurd hq h.2.1
      ·rcases h.2.2 with h | h | h
       ·exact absurd hwo h.1
       ·exact h.2.2
       ·exact absurd hs h.2.1
      ·omega
     subst e
     exact qe H' S' st
    ·have e:k=4:=by
      rcases D with h | h | h | h
      ·omega
      ·exact absurd hq h.2.1
      ·rcases h.2.2 with h | h | h
       ·exact absurd hwo h.1
       ·exact absurd h.2.1 hs
       ·exact h.2.2.2
      ·omega
     subst e
     exact qe H' S' st
   ·walk_at "w";exact ⟨rfl,by simpa using hc,rfl⟩
  rintro σ' H' ⟨rfl,n2,rfl⟩
  obtain ⟨h34,rfl,o,rfl,ho16⟩:(what=3∨what=4)∧k=5∧∃ o,ws=[o]∧¬ (1≤o∧o≤6):=by
   rcases D with h | h | h | h
   ·omega
   ·omega
   ·omega
   ·exact h
  have hob:=R.sw o (by simp)
  walk_at "w";refine r_join (fun σ' H'=>H=H'∧what≠3∧σ'=[some (.ref lp),some (.int what),some (.ref wb),some (.bl lit)]) ?_ ?_
  ·walk_at "w";refine r_eq rfl ?_
   walk_at "w";refine r_ite (fun hc=>?_) (fun hc=>?_)
   ·walk_at "w";refine r_ixL (SqL.of R.hw) (atI_nat (j:=0) rfl) ?_
    walk_at "w";intro lq ldx e1 e2 e3
    have sm:Same H (upd (upd H ldx (.own lq)) lq (.ins t.C_Learner ldx [])):=(Same.upd_new e2).trans (Same.upd_new (by rw [upd_ne (Ne.symm e3)];exact e1))
    refine ⟨lq,ldx,o,rfl,upd_same,hob.1,hob.2,fun z=>absurd z ho16,fun _ H' s'=>?_⟩
    exact qe H' (R.S.same (sm.trans s')) (.same (sm.trans s'))
   ·walk_at "w";exact ⟨rfl,by simpa using hc,rfl⟩
  rintro σ' H' ⟨rfl,n3,rfl⟩
  have h4:what=4:=h34.resolve_left n3
  subst h4
  walk_at "w";refine r_join (fun σ' H'=>False) ?_ (fun σ' H' z=>z.elim)
  walk_at "w";refine r_eq rfl ?_
  walk_at "w";refine r_iteP (by simp) ?_
  walk_at "w";refine r_ixL (SqL.of R.hw) (atI_nat (j:=0) rfl) ?_
  walk_at "w";intro lq ldx e1 e2 e3
  have sm:Same H (upd (upd H ldx (.own lq)) lq (.ins t.C_Book ldx [])):=(Same.upd_new e2).trans (Same.upd_new (by rw [upd_ne (Ne.symm e3)];exact e1))
  refine ⟨lq,ldx,o,rfl,upd_same,hob.1,hob.2,fun z=>absurd z ho16,fun _=>?_⟩
  exact qe _ (R.S.same sm) (.same sm)
theorem sc_l_name:FnScope ["learner","what","word","lit","name","under","e"] ["learner","what","word","lit"] (defScope s_l_name):=⟨rfl,rfl,rfl,by decide +kernel,rfl,by decide +kernel,by decide +kernel⟩
theorem b_l_name (T:Txt K mg t):Binds K t.fd_l_name ["learner","what","word","lit"] []:=T.F_l_name.binds fun _ _ _ _ _ _ us hl=>by obtain ⟨_,_,_,_,rfl⟩:=len_4 hl;rfl
def nmOf (k:Nat):Str:=if k=0 then "asked" else if k=1 then "yet" else if k=2 then "word" else if k=3 then "otherwise" else if k=4 then "wrong" else "house"
theorem Due.k5 {d:Int} {kn:Bk} {heads tails:List (List Int)} {what:Int} {ws:List Int} {lit:Bool} {k:Nat} (D:Due d kn heads tails what ws lit k):k≤5:=by
 unfold Due at D
 rcases D with h | h | h | h
 ·omega
 ·omega
 ·rcases h.2.2 with h | h | h <;> omega
 ·omega
def sp_l_name (K:PySem.W.Frag) (t:Adr):Sp:=fun vs H Q E=>∃ (lp:Addr) (d:Int) (L:LA) (kn:Bk) (heads tails:List (List Int)) (what:Int) (wb:Addr) (ws:List Int) (lit:Bool) (k:Nat),vs=[.ref lp,.int what,.ref wb,.bl lit]∧Ref t H lp d L kn heads tails what wb ws lit k ∧
 ∀ H',LS t.C_Learner t.C_Book H' lp d L kn heads tails→LStep lp L L H H'→Q (.str (nmOf k)) H'
theorem ok_l_name (T:Txt K mg t):FnOk P w K mg base CX0 10 t.f_l_name t.fd_l_name ["learner","what","word","lit"] (sp_l_name K t):=by
 refine T.F_l_name.ok sc_l_name (fun vs H Q E h=>?_) (fun cdv A outer s H vs Q E hr h=>?_)
 ·obtain ⟨lp,d,L,kn,heads,tails,what,wb,ws,lit,k,rfl,_⟩:=h
  rfl
 ·obtain ⟨lp,d,L,kn,heads,tails,what,wb,ws,lit,k,rfl,R,q⟩:=h
  have hk5:=R.due.k5
  refine ⟨_,pss_cons (ps_set (i:=4) sc_l_name.nd rfl (Or.inl rfl) (pe_str))
 (pss_cons (ps_set (i:=5) sc_l_name.nd rfl (Or.inl rfl) (pe_bl))
 (pss_cons (ps_tryN (i:=6) rfl rfl sc_l_name.nd rfl rfl (fun _ _ _ xp=>pss_one (ps_expr (pe_call (ok_l_do T) (hr.mono (by decide)) rfl T.mg_l_do T.F_l_do.kp (b_l_do T) .nil xp.pass (pa_cons (pv 0) (pa_cons (pv 1) (pa_cons (pv 2) (pa_cons (pv 3) (pa_nil))))))))
 (PHs.cons rfl T.mg_NotAsked (by decide) (fun _ _=>pss_cons (ps_set (i:=4) sc_l_name.nd rfl (Or.inl rfl) (pe_str))
 (pss_one (ps_set (i:=5) sc_l_name.nd rfl (Or.inl rfl) (pe_and (pe_callH (ok_l_stands_under T) (roomH hr (by decide)) rfl T.mg_l_stands_under T.F_l_stands_under.kp (b_l_stands_under T) .nil pass0 (pa_cons (pv 6) (pa_nil))) (pe_one (pe_not (pe_callB (call_isinstXT K) rfl T.m_isinstance boot_isinstance (pa_cons (pv 6) (pa_cons (pe_tup (pa_cons (pe_glob (v:=.ref _) rfl T.mg_BadHouse rfl) (pa_cons (pe_glob (v:=.ref _) rfl T.mg_BadWord rfl) (pa_cons (pe_glob (v:=.ref _) rfl T.mg_NotWrong rfl) (pa_cons (pe_glob (v:=.ref _) rfl T.mg_NotYet rfl) (pa_cons (pe_glob (v:=.ref _) rfl T.mg_SaidOtherwise rfl) (pa_nil))))))) (pa_nil))))))))))
 (PHs.cons rfl T.mg_NotYet (by decide) (fun _ _=>pss_cons (ps_set (i:=4) sc_l_name.nd rfl (Or.inl rfl) (pe_str))
 (pss_one (ps_set (i:=5) sc_l_name.nd rfl (Or.inl rfl) (pe_and (pe_callH (ok_l_stands_under T) (roomH hr (by decide)) rfl T.mg_l_stands_under T.F_l_stands_under.kp (b_l_stands_under T) .nil pass0 (pa_cons (pv 6) (pa_nil))) (pe_one (pe_not (pe_callB (call_isinstXT K) rfl T.m_isinstance boot_isinstance (pa_cons (pv 6) (pa_cons (pe_tup (pa_cons (pe_glob (v:=.ref _) rfl T.mg_BadHouse rfl) (pa_cons (pe_glob (v:=.ref _) rfl T.mg_BadWord rfl) (pa_cons (pe_glob (v:=.ref _) rfl T.mg_NotWrong rfl) (pa_cons (pe_glob (v:=.ref _) rfl T.mg_NotAsked rfl) (pa_cons (pe_glob (v:=.ref _) rfl T.mg_SaidOtherwise rfl) (pa_nil))))))) (pa_nil))))))))))
 (PHs.cons rfl T.mg_BadWord (by decide) (fun _ _=>pss_cons (ps_set (i:=4) sc_l_name.nd rfl (Or.inl rfl) (pe_str))
 (pss_one (ps_set (i:=5) sc_l_name.nd rfl (Or.inl rfl) (pe_and (pe_callH (ok_l_stands_under T) (roomH hr (by decide)) rfl T.mg_l_stands_under T.F_l_stands_under.kp (b_l_stands_under T) .nil pass0 (pa_cons (pv 6) (pa_nil))) (pe_one (pe_not (pe_callB (call_isinstXT K) rfl T.m_isinstance boot_isinstance (pa_cons (pv 6) (pa_cons (pe_tup (pa_cons (pe_glob (v:=.ref _) rfl T.mg_BadHouse rfl) (pa_cons (pe_glob (v:=.ref _) rfl T.mg_NotYet rfl) (pa_cons (pe_glob (v:=.ref _) rfl T.mg_NotWrong rfl) (pa_cons (pe_glob (v:=.ref _) rfl T.mg_NotAsked rfl) (pa_cons (pe_glob (v:=.ref _) rfl T.mg_SaidOtherwise rfl) (pa_nil))))))) (pa_nil))))))))))
 (PHs.cons rfl T.mg_SaidOtherwise (by decide) (fun _ _=>pss_cons (ps_set (i:=4) sc_l_name.nd rfl (Or.inl rfl) (pe_str))
 (pss_one (ps_set (i:=5) sc_l_name.nd rfl (Or.inl rfl) (pe_and (pe_callH (ok_l_stands_under T) (roomH hr (by decide)) rfl T.mg_l_stands_under T.F_l_stands_under.kp (b_l_stands_under T) .nil pass0 (pa_cons (pv 6) (pa_nil))) (pe_one (pe_not (pe_callB (call_isinstXT K) rfl T.m_isinstance boot_isinstance (pa_cons (pv 6) (pa_cons (pe_tup (pa_cons (pe_glob (v:=.ref _) rfl T.mg_BadHouse rfl) (pa_cons (pe_glob (v:=.ref _) rfl T.mg_NotYet rfl) (pa_cons (pe_glob (v:=.ref _) rfl T.mg_NotWrong rfl) (pa_cons (pe_glob (v:=.ref _) rfl T.mg_NotAsked rfl) (pa_cons (pe_glob (v:=.ref _) rfl T.mg_BadWord rfl) (pa_nil))))))) (pa_nil))))))))))
 (PHs.cons rfl T.mg_NotWrong (by decide) (fun _ _=>pss_cons (ps_set (i:=4) sc_l_name.nd rfl (Or.inl rfl) (pe_str))
 (pss_one (ps_set (i:=5) sc_l_name.nd rfl (Or.inl rfl) (pe_and (pe_callH (ok_l_stands_under T) (roomH hr (by decide)) rfl T.mg_l_stands_under T.F_l_stands_under.kp (b_l_stands_under T) .nil pass0 (pa_cons (pv 6) (pa_nil))) (pe_one (pe_not (pe_callB (call_isinstXT K) rfl T.m_isinstance boot_isinstance (pa_cons (pv 6) (pa_cons (pe_tup (pa_cons (pe_glob (v:=.ref _) rfl T.mg_BadHouse rfl) (pa_cons (pe_glob (v:=.ref _) rfl T.mg_NotYet rfl) (pa_cons (pe_glob (v:=.ref _) rfl T.mg_SaidOtherwise rfl) (pa_cons (pe_glob (v:=.ref _) rfl T.mg_NotAsked rfl) (pa_cons (pe_glob (v:=.ref _) rfl T.mg_BadWord rfl) (pa_nil))))))) (pa_nil))))))))))
 (PHs.cons rfl T.mg_BadHouse (by decide) (fun _ _=>pss_cons (ps_set (i:=4) sc_l_name.nd rfl (Or.inl rfl) (pe_str))
 (pss_one (ps_set (i:=5) sc_l_name.nd rfl (Or.inl rfl) (pe_and (pe_callH (ok_l_stands_under T) (roomH hr (by decide)) rfl T.mg_l_stands_under T.F_l_stands_under.kp (b_l_stands_under T) .nil pass0 (pa_cons (pv 6) (pa_nil))) (pe_one (pe_not (pe_callB (call_isinstXT K) rfl T.m_isinstance boot_isinstance (pa_cons (pv 6) (pa_cons (pe_tup (pa_cons (pe_glob (v:=.ref _) rfl T.mg_NotWrong rfl) (pa_cons (pe_glob (v:=.ref _) rfl T.mg_NotYet rfl) (pa_cons (pe_glob (v:=.ref _) rfl T.mg_SaidOtherwise rfl) (pa_cons (pe_glob (v:=.ref _) rfl T.mg_NotAsked rfl) (pa_cons (pe_glob (v:=.ref _) rfl T.mg_BadWord rfl) (pa_nil))))))) (pa_nil))))))))))
 (PHs.nil))))))))
 (pss_cons (ps_if (pt_not (pt_val (pv 5)))
 (pss_one (ps_ret (pe_str)))
 (pss_nil))
 (pss_one (ps_ret (pv 4)))))),?_⟩
  walk_at "w";refine ⟨lp,d,L,kn,heads,tails,what,wb,ws,lit,k,rfl,R,fun H0 S0 st0=>⟨cOf t k,rfl,fun ea hea=>?_⟩⟩
  replace q:=fun H' (s:Same H0 H')=>q H' (S0.same s) (st0.trans (.same s))
  have hs0:Same H0 (upd H0 ea (.ext (ExcAt ea (cOf t k)))):=Same.upd_new hea
  have he1:(upd H0 ea (.ext (ExcAt ea (cOf t k)))) ea=some (.ext (ExcAt ea (cOf t k))):=upd_same
  generalize upd H0 ea (.ext (ExcAt ea (cOf t k)))=H1 at hs0 he1 ⊢
  clear R S0 st0 hea
  rcases (show k=0∨k=1∨k=2∨k=3∨k=4∨k=5 by omega) with rfl | rfl | rfl | rfl | rfl | rfl
  ·refine .inl ⟨exm_of T.mb_NotAsked T.cl_NotAsked T.ty_NotAsked T.ms_NotAsked,?_⟩
   walk_at "w";refine ⟨ea,_,_,rfl,he1,T.ex_NotAsked,kit_sub (Ne.symm (ne_mro T.ms_HouseError T.mr_HouseError_NotAsked)) T.cl_HouseError T.ty_HouseError T.mr_NotAsked_HouseError,kit_val T.mv_NotAsked,?_⟩
   walk_at "w";refine r_iteP rfl ?_
   walk_at "w";refine ⟨by show 5≤sizeLine;decide,fun tp htp=>?_⟩
   have hs2:Same H1 (upd H1 tp (.tup [.ref t.C_BadHouse,.ref t.C_BadWord,.ref t.C_NotWrong,.ref t.C_NotYet,.ref t.C_SaidOtherwise])):=Same.upd_new htp
   refine ⟨ea,_,_,tp,[t.C_BadHouse,t.C_BadWord,t.C_NotWrong,t.C_NotYet,t.C_SaidOtherwise],false,rfl,hs2 _ _ he1,T.ex_NotAsked,upd_same,?_,?_⟩
   ·have n0:=kit_sub (ne_mro T.ms_NotAsked T.mr_NotAsked_BadHouse) T.cl_BadHouse T.ty_BadHouse T.mr_NotAsked_BadHouse
    have n1:=kit_sub (ne_mro T.ms_NotAsked T.mr_NotAsked_BadWord) T.cl_BadWord T.ty_BadWord T.mr_NotAsked_BadWord
    have n2:=kit_sub (ne_mro T.ms_NotAsked T.mr_NotAsked_NotWrong) T.cl_NotWrong T.ty_NotWrong T.mr_NotAsked_NotWrong
    have n3:=kit_sub (ne_mro T.ms_NotAsked T.mr_NotAsked_NotYet) T.cl_NotYet T.ty_NotYet T.mr_NotAsked_NotYet
    have n4:=kit_sub (ne_mro T.ms_NotAsked T.mr_NotAsked_SaidOtherwise) T.cl_SaidOtherwise T.ty_SaidOtherwise T.mr_NotAsked_SaidOtherwise
    show PySem.W.kitAny K (.ref t.C_NotAsked) [.ref t.C_BadHouse,.ref t.C_BadWord,.ref t.C_NotWrong,.ref t.C_NotYet,.ref t.C_SaidOtherwise]=_
    simp only [PySem.W.kitAny,n0,n1,n2,n3,n4]
   generalize upd H1 tp (.tup [.ref t.C_BadHouse,.ref t.C_BadWord,.ref t.C_NotWrong,.ref t.C_NotYet,.ref t.C_SaidOtherwise])=H2 at hs2 ⊢
   walk_at "w";refine r_iteN rfl ?_
   walk_at "w";exact q _ (hs0.trans hs2)
  ·refine .inr ⟨exm_of T.mb_NotAsked T.cl_NotAsked T.ty_NotAsked T.mr_NotYet_NotAsked,.inl ⟨exm_of T.mb_NotYet T.cl_NotYet T.ty_NotYet T.ms_NotYet,?_⟩⟩
   walk_at "w";refine ⟨ea,_,_,rfl,he1,T.ex_NotYet,kit_sub (Ne.symm (ne_mro T.ms_HouseError T.mr_HouseError_NotYet)) T.cl_HouseError T.ty_HouseError T.mr_NotYet_HouseError,kit_val T.mv_NotYet,?_⟩
   walk_at "w";refine r_iteP rfl ?_
   walk_at "w";refine ⟨by show 5≤sizeLine;decide,fun tp htp=>?_⟩
   have hs2:Same H1 (upd H1 tp (.tup [.ref t.C_BadHouse,.ref t.C_BadWord,.ref t.C_NotWrong,.ref t.C_NotAsked,.ref t.C_SaidOtherwise])):=Same.upd_new htp
   refine ⟨ea,_,_,tp,[t.C_BadHouse,t.C_BadWord,t.C_NotWrong,t.C_NotAsked,t.C_SaidOtherwise],false,rfl,hs2 _ _ he1,T.ex_NotYet,upd_same,?_,?_⟩
   ·have n0:=kit_sub (ne_mro T.ms_NotYet T.mr_NotYet_BadHouse) T.cl_BadHouse T.ty_BadHouse T.mr_NotYet_BadHouse
    have n1:=kit_sub (ne_mro T.ms_NotYet T.mr_NotYet_BadWord) T.cl_BadWord T.ty_BadWord T.mr_NotYet_BadWord
    have n2:=kit_sub (ne_mro T.ms_NotYet T.mr_NotYet_NotWrong) T.cl_NotWrong T.ty_NotWrong T.mr_NotYet_NotWrong
    have n3:=kit_sub (ne_mro T.ms_NotYet T.mr_NotYet_NotAsked) T.cl_NotAsked T.ty_NotAsked T.mr_NotYet_NotAsked
    have n4:=kit_sub (ne_mro T.ms_NotYet T.mr_NotYet_SaidOtherwise) T.cl_SaidOtherwise T.ty_SaidOtherwise T.mr_NotYet_SaidOtherwise
    show PySem.W.kitAny K (.ref t.C_NotYet) [.ref t.C_BadHouse,.ref t.C_BadWord,.ref t.C_NotWrong,.ref t.C_NotAsked,.ref t.C_SaidOtherwise]=_
    simp only [PySem.W.kitAny,n0,n1,n2,n3,n4]
   generalize upd H1 tp (.tup [.ref t.C_BadHouse,.ref t.C_BadWord,.ref t.C_NotWrong,.ref t.C_NotAsked,.ref t.C_SaidOtherwise])=H2 at hs2 ⊢
   walk_at "w";refine r_iteN rfl ?_
   walk_at "w";exact q _ (hs0.trans hs2)
  ·refine .inr ⟨exm_of T.mb_NotAsked T.cl_NotAsked T.ty_NotAsked T.mr_BadWord_NotAsked,.inr ⟨exm_of T.mb_NotYet T.cl_NotYet T.ty_NotYet T.mr_BadWord_NotYet,.inl ⟨exm_of T.mb_BadWord T.cl_BadWord T.ty_BadWord T.ms_BadWord,?_⟩⟩⟩
   walk_at "w";refine ⟨ea,_,_,rfl,he1,T.ex_BadWord,kit_sub (Ne.symm (ne_mro T.ms_HouseError T.mr_HouseError_BadWord)) T.cl_HouseError T.ty_HouseError T.mr_BadWord_HouseError,kit_val T.mv_BadWord,?_⟩
   walk_at "w";refine r_iteP rfl ?_
   walk_at "w";refine ⟨by show 5≤sizeLine;decide,fun tp htp=>?_⟩
   have hs2:Same H1 (upd H1 tp (.tup [.ref t.C_BadHouse,.ref t.C_NotYet,.ref t.C_NotWrong,.ref t.C_NotAsked,.ref t.C_SaidOtherwise])):=Same.upd_new htp
   refine ⟨ea,_,_,tp,[t.C_BadHouse,t.C_NotYet,t.C_NotWrong,t.C_NotAsked,t.C_SaidOtherwise],false,rfl,hs2 _ _ he1,T.ex_BadWord,upd_same,?_,?_⟩
   ·have n0:=kit_sub (ne_mro T.ms_BadWord T.mr_BadWord_BadHouse) T.cl_BadHouse T.ty_BadHouse T.mr_BadWord_BadHouse
    have n1:=kit_sub (ne_mro T.ms_BadWord T.mr_BadWord_NotYet) T.cl_NotYet T.ty_NotYet T.mr_BadWord_NotYet
    have n2:=kit_sub (ne_mro T.ms_BadWord T.mr_BadWord_NotWrong) T.cl_NotWrong T.ty_NotWrong T.mr_BadWord_NotWrong
    have n3:=kit_sub (ne_mro T.ms_BadWord T.mr_BadWord_NotAsked) T.cl_NotAsked T.ty_NotAsked T.mr_BadWord_NotAsked
    have n4:=kit_sub (ne_mro T.ms_BadWord T.mr_BadWord_SaidOtherwise) T.cl_SaidOtherwise T.ty_SaidOtherwise T.mr_BadWord_SaidOtherwise
    show PySem.W.kitAny K (.ref t.C_BadWord) [.ref t.C_BadHouse,.ref t.C_NotYet,.ref t.C_NotWrong,.ref t.C_NotAsked,.ref t.C_SaidOtherwise]=_
    simp only [PySem.W.kitAny,n0,n1,n2,n3,n4]
   generalize upd H1 tp (.tup [.ref t.C_BadHouse,.ref t.C_NotYet,.ref t.C_NotWrong,.ref t.C_NotAsked,.ref t.C_SaidOtherwise])=H2 at hs2 ⊢
   walk_at "w";refine r_iteN rfl ?_
   walk_at "w";exact q _ (hs0.trans hs2)
  ·refine .inr ⟨exm_of T.mb_NotAsked T.cl_NotAsked T.ty_NotAsked T.mr_SaidOtherwise_NotAsked,.inr ⟨exm_of T.mb_NotYet T.cl_NotYet T.ty_NotYet T.mr_SaidOtherwise_NotYet,.inr ⟨exm_of T.mb_BadWord T.cl_BadWord T.ty_BadWord T.mr_SaidOtherwise_BadWord,.inl ⟨exm_of T.mb_SaidOtherwise T.cl_SaidOtherwise T.ty_SaidOtherwise T.ms_SaidOtherwise,?_⟩⟩⟩⟩
   walk_at "w";refine ⟨ea,_,_,rfl,he1,T.ex_SaidOtherwise,kit_sub (Ne.symm (ne_mro T.ms_HouseError T.mr_HouseError_SaidOtherwise)) T.cl_HouseError T.ty_HouseError T.mr_SaidOtherwise_HouseError,kit_val T.mv_SaidOtherwise,?_⟩
   walk_at "w";refine r_iteP rfl ?_
   walk_at "w";refine ⟨by show 5≤sizeLine;decide,fun tp htp=>?_⟩
   have hs2:Same H1 (upd H1 tp (.tup [.ref t.C_BadHouse,.ref t.C_NotYet,.ref t.C_NotWrong,.ref t.C_NotAsked,.ref t.C_BadWord])):=Same.upd_new htp
   refine ⟨ea,_,_,tp,[t.C_BadHouse,t.C_NotYet,t.C_NotWrong,t.C_NotAsked,t.C_BadWord],false,rfl,hs2 _ _ he1,T.ex_SaidOtherwise,upd_same,?_,?_⟩
   ·have n0:=kit_sub (ne_mro T.ms_SaidOtherwise T.mr_SaidOtherwise_BadHouse) T.cl_BadHouse T.ty_BadHouse T.mr_SaidOtherwise_BadHouse
    have n1:=kit_sub (ne_mro T.ms_SaidOtherwise T.mr_SaidOtherwise_NotYet) T.cl_NotYet T.ty_NotYet T.mr_SaidOtherwise_NotYet
    have n2:=kit_sub (ne_mro T.ms_SaidOtherwise T.mr_SaidOtherwise_NotWrong) T.cl_NotWrong T.ty_NotWrong T.mr_SaidOtherwise_NotWrong
    have n3:=kit_sub (ne_mro T.ms_SaidOtherwise T.mr_SaidOtherwise_NotAsked) T.cl_NotAsked T.ty_NotAsked T.mr_SaidOtherwise_NotAsked
    have n4:=kit_sub (ne_mro T.ms_SaidOtherwise T.mr_SaidOtherwise_BadWord) T.cl_BadWord T.ty_BadWord T.mr_SaidOtherwise_BadWord
    show PySem.W.kitAny K (.ref t.C_SaidOtherwise) [.ref t.C_BadHouse,.ref t.C_NotYet,.ref t.C_NotWrong,.ref t.C_NotAsked,.ref t.C_BadWord]=_
    simp only [PySem.W.kitAny,n0,n1,n2,n3,n4]
   generalize upd H1 tp (.tup [.ref t.C_BadHouse,.ref t.C_NotYet,.ref t.C_NotWrong,.ref t.C_NotAsked,.ref t.C_BadWord])=H2 at hs2 ⊢
   walk_at "w";refine r_iteN rfl ?_
   walk_at "w";exact q _ (hs0.trans hs2)
  ·refine .inr ⟨exm_of T.mb_NotAsked T.cl_NotAsked T.ty_NotAsked T.mr_NotWrong_NotAsked,.inr ⟨exm_of T.mb_NotYet T.cl_NotYet T.ty_NotYet T.mr_NotWrong_NotYet,.inr ⟨exm_of T.mb_BadWord T.cl_BadWord T.ty_BadWord T.mr_NotWrong_BadWord,.inr ⟨exm_of T.mb_SaidOtherwise T.cl_SaidOtherwise T.ty_SaidOtherwise T.mr_NotWrong_SaidOtherwise,.inl ⟨exm_of T.mb_NotWrong T.cl_NotWrong T.ty_NotWrong T.ms_NotWrong,?_⟩⟩⟩⟩⟩
   walk_at "w";refine ⟨ea,_,_,rfl,he1,T.ex_NotWrong,kit_sub (Ne.symm (ne_mro T.ms_HouseError T.mr_HouseError_NotWrong)) T.cl_HouseError T.ty_HouseError T.mr_NotWrong_HouseError,kit_val T.mv_NotWrong,?_⟩
   walk_at "w";refine r_iteP rfl ?_
   walk_at "w";refine ⟨by show 5≤sizeLine;decide,fun tp htp=>?_⟩
   have hs2:Same H1 (upd H1 tp (.tup [.ref t.C_BadHouse,.ref t.C_NotYet,.ref t.C_SaidOtherwise,.ref t.C_NotAsked,.ref t.C_BadWord])):=Same.upd_new htp
   refine ⟨ea,_,_,tp,[t.C_BadHouse,t.C_NotYet,t.C_SaidOtherwise,t.C_NotAsked,t.C_BadWord],false,rfl,hs2 _ _ he1,T.ex_NotWrong,upd_same,?_,?_⟩
   ·have n0:=kit_sub (ne_mro T.ms_NotWrong T.mr_NotWrong_BadHouse) T.cl_BadHouse T.ty_BadHouse T.mr_NotWrong_BadHouse
    have n1:=kit_sub (ne_mro T.ms_NotWrong T.mr_NotWrong_NotYet) T.cl_NotYet T.ty_NotYet T.mr_NotWrong_NotYet
    have n2:=kit_sub (ne_mro T.ms_NotWrong T.mr_NotWrong_SaidOtherwise) T.cl_SaidOtherwise T.ty_SaidOtherwise T.mr_NotWrong_SaidOtherwise
    have n3:=kit_sub (ne_mro T.ms_NotWrong T.mr_NotWrong_NotAsked) T.cl_NotAsked T.ty_NotAsked T.mr_NotWrong_NotAsked
    have n4:=kit_sub (ne_mro T.ms_NotWrong T.mr_NotWrong_BadWord) T.cl_BadWord T.ty_BadWord T.mr_NotWrong_BadWord
    show PySem.W.kitAny K (.ref t.C_NotWrong) [.ref t.C_BadHouse,.ref t.C_NotYet,.ref t.C_SaidOtherwise,.ref t.C_NotAsked,.ref t.C_BadWord]=_
    simp only [PySem.W.kitAny,n0,n1,n2,n3,n4]
   generalize upd H1 tp (.tup [.ref t.C_BadHouse,.ref t.C_NotYet,.ref t.C_SaidOtherwise,.ref t.C_NotAsked,.ref t.C_BadWord])=H2 at hs2 ⊢
   walk_at "w";refine r_iteN rfl ?_
   walk_at "w";exact q _ (hs0.trans hs2)
  ·refine .inr ⟨exm_of T.mb_NotAsked T.cl_NotAsked T.ty_NotAsked T.mr_BadHouse_NotAsked,.inr ⟨exm_of T.mb_NotYet T.cl_NotYet T.ty_NotYet T.mr_BadHouse_NotYet,.inr ⟨exm_of T.mb_BadWord T.cl_BadWord T.ty_BadWord T.mr_BadHouse_BadWord,.inr ⟨exm_of T.mb_SaidOtherwise T.cl_SaidOtherwise T.ty_SaidOtherwise T.mr_BadHouse_SaidOtherwise,.inr ⟨exm_of T.mb_NotWrong T.cl_NotWrong T.ty_NotWrong T.mr_BadHouse_NotWrong,.inl ⟨exm_of T.mb_BadHouse T.cl_BadHouse T.ty_BadHouse T.ms_BadHouse,?_⟩⟩⟩⟩⟩⟩
   walk_at "w";refine ⟨ea,_,_,rfl,he1,T.ex_BadHouse,kit_sub (Ne.symm (ne_mro T.ms_HouseError T.mr_HouseError_BadHouse)) T.cl_HouseError T.ty_HouseError T.mr_BadHouse_HouseError,kit_val T.mv_BadHouse,?_⟩
   walk_at "w";refine r_iteP rfl ?_
   walk_at "w";refine ⟨by show 5≤sizeLine;decide,fun tp htp=>?_⟩
   have hs2:Same H1 (upd H1 tp (.tup [.ref t.C_NotWrong,.ref t.C_NotYet,.ref t.C_SaidOtherwise,.ref t.C_NotAsked,.ref t.C_BadWord])):=Same.upd_new htp
   refine ⟨ea,_,_,tp,[t.C_NotWrong,t.C_NotYet,t.C_SaidOtherwise,t.C_NotAsked,t.C_BadWord],false,rfl,hs2 _ _ he1,T.ex_BadHouse,upd_same,?_,?_⟩
   ·have n0:=kit_sub (ne_mro T.ms_BadHouse T.mr_BadHouse_NotWrong) T.cl_NotWrong T.ty_NotWrong T.mr_BadHouse_NotWrong
    have n1:=kit_sub (ne_mro T.ms_BadHouse T.mr_BadHouse_NotYet) T.cl_NotYet T.ty_NotYet T.mr_BadHouse_NotYet
    have n2:=kit_sub (ne_mro T.ms_BadHouse T.mr_BadHouse_SaidOtherwise) T.cl_SaidOtherwise T.ty_SaidOtherwise T.mr_BadHouse_SaidOtherwise
    have n3:=kit_sub (ne_mro T.ms_BadHouse T.mr_BadHouse_NotAsked) T.cl_NotAsked T.ty_NotAsked T.mr_BadHouse_NotAsked
    have n4:=kit_sub (ne_mro T.ms_BadHouse T.mr_BadHouse_BadWord) T.cl_BadWord T.ty_BadWord T.mr_BadHouse_BadWord
    show PySem.W.kitAny K (.ref t.C_BadHouse) [.ref t.C_NotWrong,.ref t.C_NotYet,.ref t.C_SaidOtherwise,.ref t.C_NotAsked,.ref t.C_BadWord]=_
    simp only [PySem.W.kitAny,n0,n1,n2,n3,n4]
   generalize upd H1 tp (.tup [.ref t.C_NotWrong,.ref t.C_NotYet,.ref t.C_SaidOtherwise,.ref t.C_NotAsked,.ref t.C_BadWord])=H2 at hs2 ⊢
   walk_at "w";refine r_iteN rfl ?_
   walk_at "w";exact q _ (hs0.trans hs2)
theorem sc_l_seen:FnScope ["learner"] ["learner"] (defScope s_l_seen):=⟨rfl,rfl,rfl,by decide +kernel,rfl,by decide +kernel,by decide +kernel⟩
theorem b_l_seen (T:Txt K mg t):Binds K t.fd_l_seen ["learner"] []:=T.F_l_seen.binds fun _ _ _ _ _ _ us hl=>by obtain ⟨_,rfl⟩:=len_1 hl;rfl
theorem comp_copyL {K:PySem.W.Frag} {H:Hp} {a:Addr} {as:List Addr} {ws:List (List Int)} {σ:L2.St} {Q:VK} (top:H a=some (.lst (as.map V.ref))) (l:LsAt V.int H as ws) (h900:ws.length≤90000)
  (q:∀ acc rA H',Same H H'→H' acc=some (.lst (rA.map V.ref))→LsAt V.int H' rA ws→(∀ b∈acc :: rA,H b=none)→Q (.ref acc) H') :
  CompR [none] (gName 0) (tCB (fun xs H Q=>∃ p ys,xs=[.ref p]∧(SqL K H p ys∨SqT K H p ys)∧∀ l,H l=none→Q (.ref l) (upd H l (.lst ys))) (tCons (tVar 0) tNil)) σ Q (Itl K a) H:=by
 refine comp_list (xs:=as.map V.ref) (fun acc i ys H'=>Same H H'∧H' acc=some (.lst ys)∧∃ rA,ys=rA.map V.ref∧rA.length=i∧(∀ b∈rA,H b=none)∧acc∉rA∧LsAt V.int H' rA (ws.take i)) (fun acc hacc=>⟨Same.upd_new hacc,upd_same,[],rfl,rfl,by simp,by simp,⟨by simp,fun i b v h1 h2=>by simp at h1⟩⟩) (fun acc i ys H' hacc _ pp=>SqL.of (pp.1 _ _ top)) (fun acc i x ys H3 hacc hx pp=>?_) (fun acc ys H3 hacc pp=>?_)
 ·obtain ⟨s3,ac3,rA,rfl,hrl,hrn,hra,lr⟩:=pp
  have hx0:=ref_map_inv hx
  clear hx
  obtain ⟨hd,rfl,hhd⟩:=hx0
  have hi:i < ws.length:=by rw [← l.len];exact (List.getElem?_eq_some_iff.mp hhd).1
  have hhi:=List.getElem?_eq_getElem hi
  have hv:=l.row i hd _ hhd hhi
  walk_at "w";refine ⟨Wk.set rfl,?_⟩
  walk_at "w";refine ⟨hd,_,rfl,.inl (SqL.of (s3 _ _ hv)),fun r hr=>?_⟩
  have nra:r≠acc:=fun z=>by rw [z,ac3] at hr;cases hr
  refine ⟨by rw [upd_ne (Ne.symm nra)];exact ac3,big6 (by simp;omega),fun b o e=>?_,upd_same,rA++[r],by simp,by simp [hrl],fun b hb=>?_,?_,?_⟩
  ·rw [upd_ne (ne_of_none e hacc),upd_ne (ne_of_none (s3 _ _ e) hr)];exact s3 _ _ e
  ·rcases List.mem_append.mp hb with hb | hb
   ·exact hrn b hb
   ·rw [List.mem_singleton.mp hb];exact s3.free hr
  ·intro z
   rcases List.mem_append.mp z with z | z
   ·exact hra z
   ·exact nra (List.mem_singleton.mp z).symm
  ·rw [take_snocA hhi]
   refine LsAt.snoc (lr.keep fun b hb o e=>?_) (by rw [upd_ne nra,upd_same])
   have nz:b≠acc:=fun z=>hra (by rw [← z];exact hb)
   rw [upd_ne nz,upd_ne (ne_of_none e hr)];exact e
 ·obtain ⟨s3,ac3,rA,rfl,hrl,hrn,hra,lr⟩:=pp
  rw [List.length_map,l.len,List.take_length] at lr
  refine q acc rA H3 s3 ac3 lr (fun b hb=>?_)
  rcases List.mem_cons.mp hb with rfl | hb
  ·exact hacc
  ·exact hrn b hb
def oD (o:Option (List Int)):PyData:=match o with
 | none=>.none
 | some w=>lI w
def pD (e:List Int×Bool):PyData:=.tuple [lI e.1,.bool e.2]
def seenD (d:Int) (kn:Bk) (heads tails:List (List Int)):PyData:=.list [oD (nextQ d kn heads tails),.list (heads.map lI),.list (tails.map lI),.list (kn.map pD)]
def Seen (K:PySem.W.Frag) (H:Hp) (p:Addr) (L:LA) (v:V) (D:PyData):Prop:=∃ S:List Addr,(∀ b∈S,b∉ownL p L∧∃ o,H b=some o)∧∀ H'',(∀ b∈S,∀ o,H b=some o→H'' b=some o)→Dt K H'' v D
theorem Seen.step {K:PySem.W.Frag} {H H':Hp} {p:Addr} {L:LA} {v:V} {D:PyData} (h:Seen K H p L v D) (st:LStep p L L H H'):Seen K H' p L v D:=by
 obtain ⟨S,h1,h2⟩:=h
 have k:∀ b∈S,∀ o,H b=some o→H' b=some o:=fun b hb o e=>st.kp b o (fun z=>(h1 b hb).1 (own_mut z)) e
 refine ⟨S,fun b hb=>⟨(h1 b hb).1,?_⟩,fun H'' k2=>h2 H'' fun b hb o e=>k2 b hb o (k b hb o e)⟩
 obtain ⟨o,e⟩:=(h1 b hb).2
 exact ⟨o,k b hb o e⟩
theorem LrnAt.notTup {C CB:Addr} {H:Hp} {p:Addr} {d:Int} {L:LA} {kn:Bk} {heads tails:List (List Int)} {rows:List (List Bool)} {f:Nat} (l:LrnAt C CB H p d L kn heads tails rows f) {b:Addr} {xs:List V} (e:H b=some (.tup xs)):b∉ownL p L:=fun h=>by
 rcases List.mem_append.mp h with h | h
 ·simp only [mutL,List.mem_cons] at h
  rcases h with rfl | rfl | rfl | rfl | rfl | rfl | rfl | h
  ·obtain ⟨_,_,h,_⟩:=l.ob;rw [e] at h;cases h
  ·obtain ⟨_,h⟩:=l.book.ob;rw [e] at h;cases h
  ·have:=l.book.noted;rw [e] at this;cases this
  ·have:=l.hds;rw [e] at this;cases this
  ·have:=l.tls;rw [e] at this;cases this
  ·have:=l.lns;rw [e] at this;cases this
  ·have:=l.rws;rw [e] at this;cases this
  ·obtain ⟨_,_,h⟩:=l.rww.mem h;rw [e] at h;cases h
 ·rcases List.mem_append.mp h with h | h
  ·rcases List.mem_append.mp h with h | h
   ·obtain ⟨_,_,h⟩:=l.hdw.mem h;rw [e] at h;cases h
   ·obtain ⟨_,_,h⟩:=l.tlw.mem h;rw [e] at h;cases h
  ·obtain ⟨_,_,h⟩:=l.lnw.mem h;rw [e] at h;cases h
def sp_l_seen (K:PySem.W.Frag) (C CB:Addr):Sp:=fun vs H Q _=>∃ (p:Addr) (d:Int) (L:LA) (kn:Bk) (heads tails:List (List Int)),vs=[.ref p]∧LS C CB H p d L kn heads tails∧Small heads tails kn∧heads.length≤900∧tails.length≤90000∧kn.length≤900 ∧
 ∀ H' v,LS C CB H' p d L kn heads tails→LStep p L L H H'→Seen K H' p L v (seenD d kn heads tails)→Q v H'
theorem dt_ints {K:PySem.W.Frag} {H:Hp} {a:Addr} {ws:List Int} (h:SqL K H a (ws.map V.int)):Dt K H (.ref a) (lI ws):=.lst h (dts_int K H ws)
theorem dts_words {K:PySem.W.Frag} {H:Hp}:∀ {as:List Addr} {ws:List (List Int)},LsAt V.int H as ws→Dts K H (as.map V.ref) (ws.map lI)
 | [],[],_=>.nil
 | [],_ :: _,l=>by have:=l.len;simp at this
 | _ :: _,[],l=>by have:=l.len;simp at this
 | a :: as,w :: ws,l=>.cons (dt_ints (SqL.of (l.row 0 a w rfl rfl))) (dts_words ⟨by have:=l.len;simpa using this,fun i b v h1 h2=>l.row (i+1) b v (by simpa using h1) (by simpa using h2)⟩)
theorem dts_said {K:PySem.W.Frag} {H:Hp}:∀ {ts as:List Addr} {kn:Bk},ts.length=kn.length→as.length=kn.length→(∀ (i:Nat) t a w b,ts[i]?=some t→as[i]?=some a→kn[i]?=some (w,b)→H t=some (.tup [.ref a,.bl b])∧H a=some (.lst (w.map V.int)))→Dts K H (ts.map V.ref) (kn.map pD)
 | [],[],[],_,_,_=>.nil
 | t :: ts,a :: as,(w,b) :: kn,h1,h2,h=>by
  obtain ⟨g1,g2⟩:=h 0 t a w b rfl rfl rfl
  exact .cons (.tup (SqT.of g1) (.cons (dt_ints (SqL.of g2)) (.cons (.bl b) .nil))) (dts_said (by simpa using h1) (by simpa using h2) fun i t a w b e1 e2 e3=>h (i+1) t a w b (by simpa using e1) (by simpa using e2) (by simpa using e3))
 | [],_,_ :: _,h1,_,_=>by simp at h1
 | _ :: _,_,[],h1,_,_=>by simp at h1
 | _,[],_ :: _,_,h2,_=>by simp at h2
 | _,_ :: _,[],_,h2,_=>by simp at h2
theorem seen_done {K:PySem.W.Frag} {C CB:Addr} {H1 H2 H3 H4:Hp} {p:Addr} {L:LA} {d:Int} {kn:Bk} {heads tails:List (List Int)} {rows:List (List Bool)} {f:Nat} {v:V} {Sv r1 r2 ts as:List Addr} {c1 c2 sl z:Addr} {D0:PyData}
  (l1:LrnAt C CB H1 p d L kn heads tails rows f) (l2:LrnAt C CB H2 p d L kn heads tails rows f) (l3:LrnAt C CB H3 p d L kn heads tails rows f) (l4:LrnAt C CB H4 p d L kn heads tails rows f)
  (hS1:∀ b∈Sv,b∉ownL p L∧∃ o,H1 b=some o) (hS2:∀ H'',(∀ b∈Sv,∀ o,H1 b=some o→H'' b=some o)→Dt K H'' v D0) (s14:Same H1 H4) (s24:Same H2 H4)
  (hc1:H2 c1=some (.lst (r1.map V.ref))) (lc1:LsAt V.int H2 r1 heads) (n1:∀ b∈c1 :: r1,H1 b=none) (hc2:H3 c2=some (.lst (r2.map V.ref))) (lc2:LsAt V.int H3 r2 tails) (n2:∀ b∈c2 :: r2,H2 b=none)
  (SA:SaidAt H3 H4 sl ts as kn) (e1:ts.length=kn.length) (e2:as.length=kn.length) (hz:H4 z=none) :
  Seen K (upd H4 z (.lst [v,.ref c1,.ref c2,.ref sl])) p L (.ref z) (.list [D0,.list (heads.map lI),.list (tails.map lI),.list (kn.map pD)]):=by
 have s5:Same H4 (upd H4 z (.lst [v,.ref c1,.ref c2,.ref sl])):=Same.upd_new hz
 have z5:(upd H4 z (.lst [v,.ref c1,.ref c2,.ref sl])) z=some (.lst [v,.ref c1,.ref c2,.ref sl]):=upd_same
 generalize upd H4 z (.lst [v,.ref c1,.ref c2,.ref sl])=H5 at s5 z5 ⊢
 have g1:=s5 _ _ (s24 _ _ hc1)
 have g2:=s5 _ _ (SA.same _ _ hc2)
 have g3:=s5 _ _ SA.top
 have w1:LsAt V.int H5 r1 heads:=lc1.keep fun b _ o e=>s5 _ _ (s24 _ _ e)
 have w2:LsAt V.int H5 r2 tails:=lc2.keep fun b _ o e=>s5 _ _ (SA.same _ _ e)
 have tA:∀ (i:Nat) t a w b,ts[i]?=some t→as[i]?=some a→kn[i]?=some (w,b)→H4 t=some (.tup [.ref a,.bl b])∧H4 a=some (.lst (w.map V.int)):=fun i t a w b h1 h2 h3=>⟨SA.tup i t a w b h1 h2 h3,SA.row i a w b h2 h3⟩
 have tat:∀ x∈ts,∃ ys,H4 x=some (.tup ys):=fun x hx=>by
  obtain ⟨i,hi⟩:=List.getElem?_of_mem hx
  have hl:=(List.getElem?_eq_some_iff.mp hi).1
  have h1:i < as.length:=by omega
  have h2:i < kn.length:=by omega
  exact ⟨_,(tA i x _ _ _ hi (List.getElem?_eq_getElem h1) (List.getElem?_eq_getElem h2)).1⟩
 have tas:∀ x∈as,∃ ys,H4 x=some (.lst ys):=fun x hx=>by
  obtain ⟨i,hi⟩:=List.getElem?_of_mem hx
  have hl:=(List.getElem?_eq_some_iff.mp hi).1
  have h1:i < ts.length:=by omega
  have h2:i < kn.length:=by omega
  exact ⟨_,(tA i _ x _ _ (List.getElem?_eq_getElem h1) hi (List.getElem?_eq_getElem h2)).2⟩
 refine ⟨Sv++(z :: c1 :: (r1++(c2 :: r2)++(sl :: (ts++as)))),fun b hb=>?_,fun H'' k=>?_⟩
 ·simp only [List.mem_append,List.mem_cons] at hb
  rcases hb with h | rfl | rfl | (h | rfl | h) | rfl | h | h
  ·obtain ⟨o,e⟩:=(hS1 b h).2
   exact ⟨(hS1 b h).1,o,s5 _ _ (s14 _ _ e)⟩
  ·exact ⟨l4.notOwn hz,_,z5⟩
  ·exact ⟨l1.notOwn (n1 _ (by simp)),_,g1⟩
  ·obtain ⟨_,_,e⟩:=w1.mem h;exact ⟨l1.notOwn (n1 _ (by simp [h])),_,e⟩
  ·exact ⟨l2.notOwn (n2 _ (by simp)),_,g2⟩
  ·obtain ⟨_,_,e⟩:=w2.mem h;exact ⟨l2.notOwn (n2 _ (by simp [h])),_,e⟩
  ·exact ⟨l3.notOwn (SA.new _ (by simp)),_,g3⟩
  ·obtain ⟨ys,e⟩:=tat b h;exact ⟨l4.notTup e,_,s5 _ _ e⟩
  ·obtain ⟨ys,e⟩:=tas b h;exact ⟨l3.notOwn (SA.new _ (by simp [h])),_,s5 _ _ e⟩
 ·have kk:∀ b o,b∈z :: c1 :: (r1++(c2 :: r2)++(sl :: (ts++as)))→H5 b=some o→H'' b=some o:=fun b o hb e=>k b (List.mem_append_right _ hb) o e
  refine .lst (SqL.of (kk z _ (by simp) z5)) (.cons (hS2 H'' fun b hb o e=>k b (List.mem_append_left _ hb) o (s5 _ _ (s14 _ _ e))) (.cons (.lst (SqL.of (kk c1 _ (by simp) g1)) (dts_words (w1.keep fun b hb o e=>kk b o (by simp [hb]) e))) (.cons (.lst (SqL.of (kk c2 _ (by simp) g2)) (dts_words (w2.keep fun b hb o e=>kk b o (by simp [hb]) e))) (.cons (.lst (SqL.of (kk sl _ (by simp) g3)) (dts_said e1 e2 fun i t a w b h1 h2 h3=>?_)) .nil))))
  obtain ⟨x1,x2⟩:=tA i t a w b h1 h2 h3
  have m1:=List.mem_of_getElem? h1
  have m2:=List.mem_of_getElem? h2
  exact ⟨kk t _ (by simp [m1]) (s5 _ _ x1),kk a _ (by simp [m2]) (s5 _ _ x2)⟩
theorem ok_l_seen (T:Txt K mg t):FnOk P w K mg base CX0 3 t.f_l_seen t.fd_l_seen ["learner"] (sp_l_seen K t.C_Learner t.C_Book):=by
 refine T.F_l_seen.ok sc_l_seen (fun vs H Q E h=>?_) (fun cdv A outer s H vs Q E hr h=>?_)
 ·obtain ⟨p,d,L,kn,heads,tails,rfl,_⟩:=h
  rfl
 ·obtain ⟨p,d,L,kn,heads,tails,rfl,S,sm,hh9,ht9,hk9,q⟩:=h
  obtain ⟨rows,f,lr,R⟩:=S.ex
  have I:=S.I
  obtain ⟨dx,fs,ho,hf⟩:=lr.ob
  refine ⟨_,pss_one (ps_ret (pe_lst (pa_cons (pe_meth0 (pv 0) T.cl_Learner T.me_Learner_question (ok_Learner_question T) (hr.mono (by decide)) (b_Learner_question T) .nil pass0) (pa_cons (pe_comp (N:=["learner"]) (sc0:=(defScope s_l_seen)) (N':=["word"]) (caps:=[none]) (by exact ⟨rfl,by decide +kernel,by decide +kernel,by decide +kernel,rfl,rfl,by decide +kernel⟩) rfl (pi_listK K (pe_fldK K (pv 0) rfl)) (fun _ _ _ _ _ _=>pg_name (i:=0) (show List.Nodup (["word"]:List Str) from by decide +kernel) rfl (Or.inl rfl)) (fun _ _ _ _ _ _=>pe_callTy (call_list_ofK K) rfl T.m_list boot_list (pa_cons (pv 0) (pa_nil)))) (pa_cons (pe_comp (N:=["learner"]) (sc0:=(defScope s_l_seen)) (N':=["word"]) (caps:=[none]) (by exact ⟨rfl,by decide +kernel,by decide +kernel,by decide +kernel,rfl,rfl,by decide +kernel⟩) rfl (pi_listK K (pe_fldK K (pv 0) rfl)) (fun _ _ _ _ _ _=>pg_name (i:=0) (show List.Nodup (["word"]:List Str) from by decide +kernel) rfl (Or.inl rfl)) (fun _ _ _ _ _ _=>pe_callTy (call_list_ofK K) rfl T.m_list boot_list (pa_cons (pv 0) (pa_nil)))) (pa_cons (pe_meth0 (pe_fldK K (pv 0) rfl) T.cl_Book T.me_Book_all_said (ok_Book_all_said T) (hr.mono (by decide)) (b_Book_all_said T) .nil pass0) (pa_nil))))))),?_⟩
  walk_at "w";refine ⟨p,dx,_,rfl,ho,hf.no _ (by decide +kernel),?_⟩
  refine ⟨p,d,L,kn,heads,tails,rows,f,rfl,lr,R,sm,I.lines1000 sm.hs,fun hq H1 rows1 l1 R1 st1=>?_,fun w hq H1 rows1 f1 wa l1 R1 st1 hwn hwa=>?_⟩
  ·have hv:Seen K H1 p L .non (oD (nextQ d kn heads tails)):=⟨[],by simp,fun _ _=>by rw [hq];exact .non⟩
   obtain ⟨Sv,hS1,hS2⟩:=hv
   obtain ⟨dx1,fs1,ho1,hf1⟩:=l1.ob
   walk_at "w";refine ⟨_,rfl,p,_,dx1,_,_,rfl,ho1,T.cl_Learner,T.na_Learner_heads,hf1.heads,?_⟩
   refine ⟨L.ha,rfl,⟨_,SqL.of l1.hds⟩,?_⟩
   refine comp_copyL l1.hds l1.hdw (by omega) fun c1 r1 H2 s2 hc1 lc1 n1=>?_
   have l2:=l1.same s2
   walk_at "w";refine ⟨_,rfl,p,_,dx1,_,_,rfl,s2 _ _ ho1,T.cl_Learner,T.na_Learner_tails,hf1.tails,?_⟩
   refine ⟨L.ta,rfl,⟨_,SqL.of l2.tls⟩,?_⟩
   refine comp_copyL l2.tls l2.tlw ht9 fun c2 r2 H3 s3 hc2 lc2 n2=>?_
   have l3:=l2.same s3
   obtain ⟨bx,hbk⟩:=l3.book.ob
   walk_at "w";refine ⟨_,rfl,p,_,dx1,_,_,rfl,(s2.trans s3) _ _ ho1,T.cl_Learner,T.na_Learner_book,hf1.book,?_⟩
   refine ⟨L.bk,bx,_,rfl,hbk,bkf_no _ _ (by decide +kernel) (by decide +kernel),?_⟩
   refine ⟨L.bk,d,L.nb,kn,rfl,l3.book,hk9,fun H4 sl ts as e1 e2 SA=>?_⟩
   have l4:=l3.same SA.same
   walk_at "w";refine ⟨by show 4≤sizeLine;decide,fun z hz=>?_⟩
   have s14:Same H1 H4:=s2.trans (s3.trans SA.same)
   have s24:Same H2 H4:=s3.trans SA.same
   have s5:Same H4 (upd H4 z (.lst [.non,.ref c1,.ref c2,.ref sl])):=Same.upd_new hz
   have z5:(upd H4 z (.lst [.non,.ref c1,.ref c2,.ref sl])) z=some (.lst [.non,.ref c1,.ref c2,.ref sl]):=upd_same
   have hx:=seen_done (K:=K) (p:=p) (L:=L) (d:=d) l1 l2 l3 l4 hS1 hS2 s14 s24 hc1 lc1 n1 hc2 lc2 n2 SA e1 e2 hz
   exact q _ _ ⟨⟨_,_,l4.same s5,R1⟩,S.I,S.st⟩ (st1.trans (.same (s14.trans s5))) hx
  ·have hv:Seen K H1 p L (.ref wa) (oD (nextQ d kn heads tails)):=⟨[wa],fun b hb=>by rw [List.mem_singleton.mp hb];exact ⟨lr.notOwn hwn,_,hwa⟩,fun H'' k=>by rw [hq];exact dt_ints (SqL.of (k wa (by simp) _ hwa))⟩
   obtain ⟨Sv,hS1,hS2⟩:=hv
   obtain ⟨dx1,fs1,ho1,hf1⟩:=l1.ob
   walk_at "w";refine ⟨_,rfl,p,_,dx1,_,_,rfl,ho1,T.cl_Learner,T.na_Learner_heads,hf1.heads,?_⟩
   refine ⟨L.ha,rfl,⟨_,SqL.of l1.hds⟩,?_⟩
   refine comp_copyL l1.hds l1.hdw (by omega) fun c1 r1 H2 s2 hc1 lc1 n1=>?_
   have l2:=l1.same s2
   walk_at "w";refine ⟨_,rfl,p,_,dx1,_,_,rfl,s2 _ _ ho1,T.cl_Learner,T.na_Learner_tails,hf1.tails,?_⟩
   refine ⟨L.ta,rfl,⟨_,SqL.of l2.tls⟩,?_⟩
   refine comp_copyL l2.tls l2.tlw ht9 fun c2 r2 H3 s3 hc2 lc2 n2=>?_
   have l3:=l2.same s3
   obtain ⟨bx,hbk⟩:=l3.book.ob
   walk_at "w";refine ⟨_,rfl,p,_,dx1,_,_,rfl,(s2.trans s3) _ _ ho1,T.cl_Learner,T.na_Learner_book,hf1.book,?_⟩
   refine ⟨L.bk,bx,_,rfl,hbk,bkf_no _ _ (by decide +kernel) (by decide +kernel),?_⟩
   refine ⟨L.bk,d,L.nb,kn,rfl,l3.book,hk9,fun H4 sl ts as e1 e2 SA=>?_⟩
   have l4:=l3.same SA.same
   walk_at "w";refine ⟨by show 4≤sizeLine;decide,fun z hz=>?_⟩
   have s14:Same H1 H4:=s2.trans (s3.trans SA.same)
   have s24:Same H2 H4:=s3.trans SA.same
   have s5:Same H4 (upd H4 z (.lst [.ref wa,.ref c1,.ref c2,.ref sl])):=Same.upd_new hz
   have z5:(upd H4 z (.lst [.ref wa,.ref c1,.ref c2,.ref sl])) z=some (.lst [.ref wa,.ref c1,.ref c2,.ref sl]):=upd_same
   have hx:=seen_done (K:=K) (p:=p) (L:=L) (d:=d) l1 l2 l3 l4 hS1 hS2 s14 s24 hc1 lc1 n1 hc2 lc2 n2 SA e1 e2 hz
   exact q _ _ ⟨⟨_,_,l4.same s5,R1⟩,S.I,S.st⟩ (st1.trans (.same (s14.trans s5))) hx
theorem sc_l_refusals_hold:FnScope ["learner","rows","row","before"] ["learner","rows"] (defScope s_l_refusals_hold):=⟨rfl,rfl,rfl,by decide +kernel,rfl,by decide +kernel,by decide +kernel⟩
theorem b_l_refusals_hold (T:Txt K mg t):Binds K t.fd_l_refusals_hold ["learner","rows"] []:=T.F_l_refusals_hold.binds fun _ _ _ _ _ _ us hl=>by obtain ⟨_,_,rfl⟩:=len_2 hl;rfl
theorem lay_pD:∀ kn:Bk,PyData.canLayAll0 (kn.map pD)=true
 | []=>rfl
 | _ :: r=>by simp [PyData.canLayAll0,PyData.canLay0,lay_pD r,pD,lI,lay_int]
theorem depth_pD:∀ kn:Bk,PyData.depthAll (kn.map pD)≤2
 | []=>by simp [PyData.depthAll]
 | _ :: r=>by have:=depth_pD r;simp only [List.map_cons,PyData.depthAll,PyData.depth,pD,lI,depth_int];omega
theorem eqv_pD:∀ kn:Bk,PyData.eqvAll (kn.map pD) (kn.map pD)=true
 | []=>by simp [PyData.eqvAll]
 | e :: r=>by
  have h:=eqv_int e.1 e.1
  rw [decide_eq_true rfl] at h
  simp only [List.map_cons,PyData.eqvAll,eqv_pD r,Bool.and_true]
  simp [pD,lI,PyData.eqv,PyData.eqvAll] at h ⊢
  exact h
theorem shaped_seen (d:Int) (kn:Bk) (heads tails:List (List Int)):SeqAt.shaped (seenD d kn heads tails)=true:=by
 have h1:=depth_lI heads
 have h2:=depth_lI tails
 have h3:=depth_pD kn
 unfold SeqAt.shaped seenD
 cases nextQ d kn heads tails with
 | none =>
  simp only [oD,PyData.canLay0,PyData.canLayAll0,lay_lI,lay_pD,PyData.depth,PyData.depthAll,Bool.and_true,Bool.true_and]
  exact decide_eq_true (by omega)
 | some w =>
  simp only [oD,lI,PyData.canLay0,PyData.canLayAll0,lay_int,lay_lI,lay_pD,PyData.depth,PyData.depthAll,depth_int,Bool.and_true,Bool.true_and]
  exact decide_eq_true (by omega)
theorem eqv_seen (d:Int) (kn:Bk) (heads tails:List (List Int)):PyData.eqv (seenD d kn heads tails) (seenD d kn heads tails)=true:=by
 have h1:=eqvAll_lI heads heads
 have h2:=eqvAll_lI tails tails
 rw [decide_eq_true rfl] at h1 h2
 have h3:=eqv_pD kn
 unfold seenD
 cases nextQ d kn heads tails with
 | none=>simp [oD,PyData.eqv,PyData.eqvAll,h1,h2,h3]
 | some w =>
  have h0:=eqv_int w w
  rw [decide_eq_true rfl] at h0
  have h0':PyData.eqv (lI w) (lI w)=true:=h0
  simp only [oD,PyData.eqv,PyData.eqvAll,h1,h2,h3,h0',Bool.and_true]
structure RowsR (H:Hp) (ra:Addr) (rA wA:List Addr) (sp:List (Int×List Int×Bool×Nat)):Prop where
 top:H ra=some (.lst (rA.map V.ref))
 l1:rA.length=sp.length
 l2:wA.length=sp.length
 row:∀ (i:Nat) r b what ws lit k,rA[i]?=some r→wA[i]?=some b→sp[i]?=some (what,ws,lit,k)→H r=some (.lst [.int what,.ref b,.bl lit,.str (nmOf k)])∧H b=some (.lst (ws.map V.int))
theorem RowsR.keep {H H':Hp} {ra:Addr} {rA wA:List Addr} {sp:List (Int×List Int×Bool×Nat)} (h:RowsR H ra rA wA sp) (k:∀ b∈ra :: (rA++wA),∀ o,H b=some o→H' b=some o):RowsR H' ra rA wA sp :=
 ⟨k _ (by simp) _ h.top,h.l1,h.l2,fun i r b what ws lit kk h1 h2 h3=>by
  obtain ⟨g1,g2⟩:=h.row i r b what ws lit kk h1 h2 h3
  have m1:=List.mem_of_getElem? h1
  have m2:=List.mem_of_getElem? h2
  exact ⟨k _ (by simp [m1]) _ g1,k _ (by simp [m2]) _ g2⟩⟩
def sp_l_refusals_hold (K:PySem.W.Frag) (t:Adr):Sp:=fun vs H Q E=>∃ (lp:Addr) (d:Int) (L:LA) (kn:Bk) (heads tails:List (List Int)) (ra:Addr) (rA wA:List Addr) (sp:List (Int×List Int×Bool×Nat)),vs=[.ref lp,.ref ra]∧LS t.C_Learner t.C_Book H lp d L kn heads tails∧Small heads tails kn∧heads.length≤400∧tails.length≤90000∧kn.length≤900∧1≤d∧d≤6 ∧
 RowsR H ra rA wA sp∧(∀ b∈ra :: (rA++wA),b∉ownL lp L)∧(∀ what ws lit k,(what,ws,lit,k)∈sp→SmallW ws∧ws.length≤900∧Due d kn heads tails what ws lit k) ∧
 ∀ H',LS t.C_Learner t.C_Book H' lp d L kn heads tails→LStep lp L L H H'→Q (.bl true) H'
theorem ok_l_refusals_hold (T:Txt K mg t):FnOk P w K mg base CX0 11 t.f_l_refusals_hold t.fd_l_refusals_hold ["learner","rows"] (sp_l_refusals_hold K t):=by
 refine T.F_l_refusals_hold.ok sc_l_refusals_hold (fun vs H Q E h=>?_) (fun cdv A outer s H vs Q E hr h=>?_)
 ·obtain ⟨lp,d,L,kn,heads,tails,ra,rA,wA,sp,rfl,_⟩:=h
  rfl
 ·obtain ⟨lp,d,L,kn,heads,tails,ra,rA,wA,sp,rfl,S,sm,hh4,ht9,hk9,hd1,hd6,R,out,due,q⟩:=h
  refine ⟨_,pss_cons (ps_for PassesOwn.never rfl (pi_listK K (pv 1)) (pg_name (i:=2) sc_l_refusals_hold.nd rfl (Or.inl rfl))
 (pss_cons (ps_set (i:=3) sc_l_refusals_hold.nd rfl (Or.inl rfl) (pe_call (ok_l_seen T) (hr.mono (by decide)) rfl T.mg_l_seen T.F_l_seen.kp (b_l_seen T) .nil pass0 (pa_cons (pv 0) (pa_nil))))
 (pss_one (ps_if (PW.pt (pw_or (pt_cmpR op_ne (pe_call (ok_l_name T) (hr.mono (by decide)) rfl T.mg_l_name T.F_l_name.kp (b_l_name T) .nil pass0 (pa_cons (pv 0) (pa_cons (pe_ix (ix_listK K) (pv 2) (pe_int) (fun _ _=>rfl)) (pa_cons (pe_callTy (call_list_ofK K) rfl T.m_list boot_list (pa_cons (pe_ix (ix_listK K) (pv 2) (pe_int) (fun _ _=>rfl)) (pa_nil))) (pa_cons (pe_ix (ix_listK K) (pv 2) (pe_int) (fun _ _=>rfl)) (pa_nil)))))) (pe_ix (ix_listK K) (pv 2) (pe_int) (fun _ _=>rfl)) (nomark _)) (pw_or1 (pt_cmpR (op_neDK K hr.units) (pe_call (ok_l_seen T) (hr.mono (by decide)) rfl T.mg_l_seen T.F_l_seen.kp (b_l_seen T) .nil pass0 (pa_cons (pv 0) (pa_nil))) (pv 3) (nomark _)))))
 (pss_one (ps_ret (pe_bl)))
 (pss_nil)))))
 (pss_one (ps_ret (pe_bl))),?_⟩
  walk_at "w";refine ⟨ra,rfl,⟨_,SqL.of R.top⟩,?_⟩
  have kst:∀ {H'},LStep lp L L H H'→RowsR H' ra rA wA sp:=fun st=>R.keep fun b hb o e=>st.kp b o (fun z=>out b hb (own_mut z)) e
  refine for_list (xs:=rA.map V.ref) (fun i σ H'=>LS t.C_Learner t.C_Book H' lp d L kn heads tails∧LStep lp L L H H'∧∃ k2 k3,σ=[some (.ref lp),some (.ref ra),k2,k3]) ⟨S,.same (Same.refl _),_,_,rfl⟩ (fun i σ H' _ pp=>SqL.of (kst pp.2.1).top) (fun i x σ H1 hx pp=>?_) (fun σ H1 pp=>?_)
  ·obtain ⟨S1,st1,k2,k3,rfl⟩:=pp
   have R1:=kst st1
   have hx0:=ref_map_inv hx
   clear hx
   obtain ⟨r,rfl,hr⟩:=hx0
   have hi:=(List.getElem?_eq_some_iff.mp hr).1
   have hi2:i < sp.length:=by rw [← R.l1];exact hi
   have hi3:i < wA.length:=by rw [R.l2];exact hi2
   obtain ⟨⟨what,ws,lit,k⟩,hsp⟩:∃ e,sp[i]?=some e:=⟨_,List.getElem?_eq_getElem hi2⟩
   obtain ⟨b,hb⟩:∃ b,wA[i]?=some b:=⟨_,List.getElem?_eq_getElem hi3⟩
   obtain ⟨hsw,hw9,hdue⟩:=due what ws lit k (List.mem_of_getElem? hsp)
   walk_at "w";refine ⟨lp,d,L,kn,heads,tails,rfl,S1,sm,by omega,ht9,hk9,fun H2 v S2 st2 sn2=>?_⟩
   have R2:=kst (st1.trans st2)
   obtain ⟨g1,g2⟩:=R2.row i r b what ws lit k hr hb hsp
   walk_at "w";refine r_ixL (SqL.of g1) (atI_nat (j:=0) rfl) ?_
   walk_at "w";refine r_ixL (SqL.of g1) (atI_nat (j:=1) rfl) ?_
   walk_at "w";refine ⟨b,_,rfl,.inl (SqL.of g2),fun lb hlb=>?_⟩
   have s3:Same H2 (upd H2 lb (.lst (ws.map V.int))):=Same.upd_new hlb
   have lb3:(upd H2 lb (.lst (ws.map V.int))) lb=some (.lst (ws.map V.int)):=upd_same
   obtain ⟨rows2,f2,l2,_⟩:=S2.ex
   have nlb:=l2.notOwn hlb
   generalize upd H2 lb (.lst (ws.map V.int))=H3 at s3 lb3 ⊢
   walk_at "w";refine r_ixL (SqL.of (s3 _ _ g1)) (atI_nat (j:=2) rfl) ?_
   walk_at "w";refine ⟨lp,d,L,kn,heads,tails,what,lb,ws,lit,k,rfl,⟨S2.same s3,sm,by omega,hd1,hd6,lb3,nlb,hsw,hw9,hdue⟩,fun H4 S4 st4=>?_⟩
   have st24:LStep lp L L H2 H4:=(LStep.same s3).trans st4
   have st14:=st1.trans (st2.trans st24)
   have R4:=kst st14
   obtain ⟨g41,g42⟩:=R4.row i r b what ws lit k hr hb hsp
   walk_at "w";refine r_ixL (SqL.of g41) (atI_nat (j:=3) rfl) ?_
   walk_at "w";refine r_ne rfl ?_
   walk_at "w";refine r_iteN (by simp) ?_
   walk_at "w";refine ⟨lp,d,L,kn,heads,tails,rfl,S4,sm,by omega,ht9,hk9,fun H5 v5 S5 st5 sn5=>?_⟩
   obtain ⟨Sa,_,da⟩:=(sn2.step (st24.trans st5))
   obtain ⟨Sb,_,db⟩:=sn5
   walk_at "w";refine ⟨_,_,db H5 (fun _ _ _ e=>e),da H5 (fun _ _ _ e=>e),shaped_seen _ _ _ _,shaped_seen _ _ _ _,?_⟩
   rw [eqv_seen]
   walk_at "w";refine r_iteN rfl ?_
   walk_at "w";exact ⟨S5,st14.trans st5,_,_,rfl⟩
  ·obtain ⟨S1,st1,k2,k3,rfl⟩:=pp
   walk_at "w";exact q H1 S1 st1
theorem sc_l_rows:FnScope ["learner","said","cell","doors","word","odd","guess","pair","rows","lit"] ["learner","said","cell","doors"] (defScope s_l_rows):=⟨rfl,rfl,rfl,by decide +kernel,rfl,by decide +kernel,by decide +kernel⟩
theorem b_l_rows (T:Txt K mg t):Binds K t.fd_l_rows ["learner","said","cell","doors"] []:=T.F_l_rows.binds fun _ _ _ _ _ _ us hl=>by obtain ⟨_,_,_,_,rfl⟩:=len_4 hl;rfl
def RowAt (H:Hp) (r b:Addr) (e:Int×List Int×Bool×Nat):Prop:=H r=some (.lst [.int e.1,.ref b,.bl e.2.2.1,.str (nmOf e.2.2.2)])∧H b=some (.lst (e.2.1.map V.int))
def RowsA (H:Hp):List Addr→List Addr→List (Int×List Int×Bool×Nat)→Prop
 | [],[],[]=>True
 | r :: rs,b :: bs,e :: es=>RowAt H r b e∧RowsA H rs bs es
 | _,_,_=>False
theorem RowsA.is {H:Hp}:∀ {rA wA:List Addr} {sp:List (Int×List Int×Bool×Nat)},RowsA H rA wA sp→rA.length=sp.length∧wA.length=sp.length∧∀ (i:Nat) r b e,rA[i]?=some r→wA[i]?=some b→sp[i]?=some e→RowAt H r b e
 | [],[],[],_=>⟨rfl,rfl,fun i r b e h=>by simp at h⟩
 | r :: rs,b :: bs,e :: es,h=>by
  obtain ⟨h1,h2,h3⟩:=RowsA.is h.2
  refine ⟨by simp [h1],by simp [h2],fun i r' b' e' g1 g2 g3=>?_⟩
  cases i with
  | zero=>simp at g1 g2 g3;subst g1 g2 g3;exact h.1
  | succ i=>exact h3 i r' b' e' (by simpa using g1) (by simpa using g2) (by simpa using g3)
 | [],[],_ :: _,h=>h.elim
 | [],_ :: _,_,h=>h.elim
 | _ :: _,[],_,h=>h.elim
 | _ :: _,_ :: _,[],h=>h.elim
theorem RowsR.of {H:Hp} {ra:Addr} {rA wA:List Addr} {sp:List (Int×List Int×Bool×Nat)} (top:H ra=some (.lst (rA.map V.ref))) (h:RowsA H rA wA sp):RowsR H ra rA wA sp:=by
 obtain ⟨h1,h2,h3⟩:=h.is
 exact ⟨top,h1,h2,fun i r b what ws lit k g1 g2 g3=>h3 i r b (what,ws,lit,k) g1 g2 g3⟩
structure SaidP (H:Hp) (sa:Addr) (sA qA:List Addr) (kn:Bk):Prop where
 top:H sa=some (.lst (sA.map V.ref))
 l1:sA.length=kn.length
 l2:qA.length=kn.length
 row:∀ (i:Nat) s q w b,sA[i]?=some s→qA[i]?=some q→kn[i]?=some (w,b)→H s=some (.lst [.ref q,.bl b])∧H q=some (.lst (w.map V.int))
theorem SaidP.keep {H H':Hp} {sa:Addr} {sA qA:List Addr} {kn:Bk} (h:SaidP H sa sA qA kn) (k:∀ b∈sa :: (sA++qA),∀ o,H b=some o→H' b=some o):SaidP H' sa sA qA kn :=
 ⟨k _ (by simp) _ h.top,h.l1,h.l2,fun i s q w b h1 h2 h3=>by
  obtain ⟨g1,g2⟩:=h.row i s q w b h1 h2 h3
  have m1:=List.mem_of_getElem? h1
  have m2:=List.mem_of_getElem? h2
  exact ⟨k _ (by simp [m1]) _ g1,k _ (by simp [m2]) _ g2⟩⟩
theorem saidO_at:∀ {kn:Bk} {i:Nat} {w:List Int} {b:Bool},(kn.map Prod.fst).Nodup→kn[i]?=some (w,b)→saidO kn w=some b
 | [],_,_,_,_,h=>by simp at h
 | (v,c) :: r,0,w,b,_,h=>by
  simp at h
  obtain ⟨rfl,rfl⟩:=h
  simp [saidO]
 | (v,c) :: r,i+1,w,b,nd,h=>by
  have h:r[i]?=some (w,b):=by simpa using h
  obtain ⟨n1,n2⟩:=List.nodup_cons.mp nd
  have ih:=saidO_at n2 h
  have ne:v≠w:=fun z=>n1 (List.mem_map.mpr ⟨(w,b),List.mem_of_getElem? h,z.symm⟩)
  simp only [saidO] at ih ⊢
  simp [ne,ih]
def sp_l_rows (K:PySem.W.Frag) (t:Adr):Sp:=fun vs H Q E=>∃ (lp:Addr) (d:Int) (L:LA) (kn:Bk) (heads tails:List (List Int)) (sa:Addr) (sA qA:List Addr) (cell:Int),vs=[.ref lp,.ref sa,.int cell,.int d]∧LS t.C_Learner t.C_Book H lp d L kn heads tails∧Small heads tails kn∧1≤d∧d≤6 ∧
 SaidP H sa sA qA kn∧(∀ b∈sa :: (sA++qA),b∉ownL lp L)∧(∀ w b,(w,b)∈kn→WordOk d w∧w.length≤900) ∧
 ∀ H' ra rA wA sp,LS t.C_Learner t.C_Book H' lp d L kn heads tails→LStep lp L L H H'→RowsR H' ra rA wA sp→(∀ b∈ra :: (rA++wA),b∉ownL lp L)→(∀ what ws lit k,(what,ws,lit,k)∈sp→SmallW ws∧ws.length≤900∧Due d kn heads tails what ws lit k)→Q (.ref ra) H'
theorem ok_l_rows (T:Txt K mg t):FnOk P w K mg base CX0 7 t.f_l_rows t.fd_l_rows ["learner","said","cell","doors"] (sp_l_rows K t):=by
 refine T.F_l_rows.ok sc_l_rows (fun vs H Q E h=>?_) (fun cdv A outer s H vs Q E hr h=>?_)
 ·obtain ⟨lp,d,L,kn,heads,tails,sa,sA,qA,cell,rfl,_⟩:=h
  rfl
 ·obtain ⟨lp,d,L,kn,heads,tails,sa,sA,qA,cell,rfl,S,sm,hd1,hd6,SP,out,kok,q⟩:=h
  have hd0:(0:Int) < d:=by omega
  refine ⟨_,pss_cons (ps_set (i:=4) sc_l_rows.nd rfl (Or.inl rfl) (pe_call (ok_l_word_by T) (hr.mono (by decide)) rfl T.mg_l_word_by T.F_l_word_by.kp (b_l_word_by T) .nil pass0 (pa_cons (pv 2) (pa_cons (pv 3) (pa_cons (pe_call (ok_l_draw T) (hr.mono (by decide)) rfl T.mg_l_draw T.F_l_draw.kp (b_l_draw T) .nil pass0 (pa_cons (pv 2) (pa_cons (pe_int) (pa_cons (pe_int) (pa_nil))))) (pa_nil))))))
 (pss_cons (ps_set (i:=5) sc_l_rows.nd rfl (Or.inl rfl) (pe_callTy (call_list_ofK K) rfl T.m_list boot_list (pa_cons (pv 4) (pa_nil))))
 (pss_cons (ps_expr (pe_bmK K PySem.F.plainAttrs_list PySem.F.slot_list_insert PySem.F.type_list_insert mt_insert (pv 5) (pa_cons (pe_call (ok_l_draw T) (hr.mono (by decide)) rfl T.mg_l_draw T.F_l_draw.kp (b_l_draw T) .nil pass0 (pa_cons (pv 2) (pa_cons (pe_int) (pa_cons (pe_op op_add (pe_callB (call_len_seqK K) rfl T.m_len PySem.boot_len (pa_cons (pv 4) (pa_nil))) (pe_int)) (pa_nil))))) (pa_cons (pe_ix (ix_listK K) (pe_lst (pa_cons (pe_op op_sub (pe_op op_sub (pe_int) (pe_int)) (pe_op op_mod (pv 2) (pe_int))) (pa_cons (pe_op op_add (pv 3) (pe_op op_mod (pv 2) (pe_int))) (pa_nil)))) (pe_op op_mod (pe_op op_fdiv (pv 2) (pe_int)) (pe_int)) (fun _ _=>rfl)) (pa_nil)))))
 (pss_cons (ps_if (pt_cmpR op_notN (pe_meth0 (pv 0) T.cl_Learner T.me_Learner_question (ok_Learner_question T) (hr.mono (by decide)) (b_Learner_question T) .nil pass0) (pe_non) (nomark _))
 (pss_one (ps_ret (pe_lst (pa_cons (pe_lst (pa_cons (pe_int) (pa_cons (pe_lst (pa_nil)) (pa_cons (pe_bl) (pa_cons (pe_str) (pa_nil)))))) (pa_cons (pe_lst (pa_cons (pe_int) (pa_cons (pv 4) (pa_cons (pe_cmpR op_eq (pe_op op_mod (pv 2) (pe_int)) (pe_int) (nomark _)) (pa_cons (pe_str) (pa_nil)))))) (pa_cons (pe_lst (pa_cons (pe_int) (pa_cons (pv 5) (pa_cons (pe_cmpR op_eq (pe_op op_mod (pv 2) (pe_int)) (pe_int) (nomark _)) (pa_cons (pe_str) (pa_nil)))))) (pa_nil)))))))
 (pss_nil))
 (pss_cons (ps_set (i:=6) sc_l_rows.nd rfl (Or.inl rfl) (pe_meth0 (pv 0) T.cl_Learner T.me_Learner_guess (ok_Learner_guess T) (hr.mono (by decide)) (b_Learner_guess T) .nil pass0X))
 (pss_cons (ps_set (i:=7) sc_l_rows.nd rfl (Or.inl rfl) (pe_ix (ix_listK K) (pv 1) (pe_op op_mod (pv 2) (pe_callB (call_len_seqK K) rfl T.m_len PySem.boot_len (pa_cons (pv 1) (pa_nil)))) (fun _ _=>rfl)))
 (pss_cons (ps_set (i:=8) sc_l_rows.nd rfl (Or.inl rfl) (pe_lst (pa_cons (pe_lst (pa_cons (pe_int) (pa_cons (pe_lst (pa_nil)) (pa_cons (pe_cmpR op_eq (pe_op op_mod (pv 2) (pe_int)) (pe_int) (nomark _)) (pa_cons (pe_str) (pa_nil)))))) (pa_cons (pe_lst (pa_cons (pe_int) (pa_cons (pv 5) (pa_cons (pe_cmpR op_eq (pe_op op_mod (pv 2) (pe_int)) (pe_int) (nomark _)) (pa_cons (pe_str) (pa_nil)))))) (pa_cons (pe_lst (pa_cons (pe_int) (pa_cons (pe_ix (ix_listK K) (pv 7) (pe_int) (fun _ _=>rfl)) (pa_cons (pe_not (pe_ix (ix_listK K) (pv 7) (pe_int) (fun _ _=>rfl))) (pa_cons (pe_str) (pa_nil)))))) (pa_nil))))))
 (pss_cons (ps_expr (pe_bmK K PySem.F.plainAttrs_list PySem.F.slot_list_append PySem.F.type_list_append mt_append (pv 8) (pa_cons (pe_lst (pa_cons (pe_int) (pa_cons (pe_ix (ix_listK K) (pv 7) (pe_int) (fun _ _=>rfl)) (pa_cons (pe_ix (ix_listK K) (pv 7) (pe_int) (fun _ _=>rfl)) (pa_cons (pe_str) (pa_nil)))))) (pa_nil))))
 (pss_cons (ps_set (i:=9) sc_l_rows.nd rfl (Or.inl rfl) (pe_ix (ix_listK K) (pe_fldK K (pv 6) rfl) (pe_call (ok_l_walk T) (hr.mono (by decide)) rfl T.mg_l_walk T.F_l_walk.kp (b_l_walk T) .nil pass0 (pa_cons (pe_fldK K (pv 6) rfl) (pa_cons (pe_int) (pa_cons (pv 4) (pa_nil))))) (fun _ _=>rfl)))
 (pss_one (ps_ret (pe_op op_cat (pv 8) (pe_lst (pa_cons (pe_lst (pa_cons (pe_int) (pa_cons (pv 4) (pa_cons (pv 9) (pa_cons (pe_str) (pa_nil)))))) (pa_nil)))))))))))))),?_⟩
  walk_at "w";refine ⟨_,_,_,rfl,by decide,?_⟩
  walk_at "w";have hn0:=draw_nn cell 1 (b:=5) (by decide)
  have hn5:=draw_lt cell 1 (b:=5) (by decide)
  refine ⟨_,d,_,rfl,hd0,hn0,by omega,fun wd hwd=>?_⟩
  have wok:WordOk d (wordBy cell d (draw cell 1 5)):=wordBy_ok _ _ hd0
  have wln:(wordBy cell d (draw cell 1 5)).length≤5:=by rw [wordBy_len];omega
  generalize wordBy cell d (draw cell 1 5)=word at wok wln ⊢
  have s1:Same H (upd H wd (.lst (word.map V.int))):=Same.upd_new hwd
  have wd1:(upd H wd (.lst (word.map V.int))) wd=some (.lst (word.map V.int)):=upd_same
  obtain ⟨rows0,f0,l0,_⟩:=S.ex
  have nwd:=l0.notOwn hwd
  generalize upd H wd (.lst (word.map V.int))=H1 at s1 wd1 ⊢
  have l1:=l0.same s1
  walk_at "w";refine ⟨wd,_,rfl,.inl (SqL.of wd1),fun od hod=>?_⟩
  have s2:Same H1 (upd H1 od (.lst (word.map V.int))):=Same.upd_new hod
  have od2:(upd H1 od (.lst (word.map V.int))) od=some (.lst (word.map V.int)):=upd_same
  have nod:=l1.notOwn hod
  have nwo:wd≠od:=fun z=>by rw [← z,wd1] at hod;cases hod
  generalize upd H1 od (.lst (word.map V.int))=H2 at s2 od2 ⊢
  have l2:=l1.same s2
  walk_at "w";refine ⟨.inl ⟨rfl,_,SqL.of od2⟩,?_⟩
  walk_at "w";refine ⟨wd,_,rfl,.inl (SqL.of (s2 _ _ wd1)),?_⟩
  rw [List.length_map]
  walk_at "w";refine ⟨_,_,_,rfl,by omega,?_⟩
  have hp0:=draw_nn cell 2 (b:=(word.length:Int)+1) (by omega)
  have hp1:=draw_lt cell 2 (b:=(word.length:Int)+1) (by omega)
  generalize draw cell 2 ((word.length:Int)+1)=pos at hp0 hp1 ⊢
  walk_at "w";refine ⟨by show 2≤sizeLine;decide,fun pr hpr=>?_⟩
  have s3:Same H2 (upd H2 pr (.lst [.int (0 - 1 - cell % 50),.int (d+cell % 50)])):=Same.upd_new hpr
  have pr3:(upd H2 pr (.lst [.int (0 - 1 - cell % 50),.int (d+cell % 50)])) pr=some (.lst [.int (0 - 1 - cell % 50),.int (d+cell % 50)]):=upd_same
  generalize upd H2 pr (.lst [.int (0 - 1 - cell % 50),.int (d+cell % 50)])=H3 at s3 pr3 ⊢
  walk_at "w";obtain ⟨o,hat,ho1,ho2⟩:∃ o:Int,atI [V.int (0 - 1 - cell % 50),V.int (d+cell % 50)] (cell / 50 % 2)=some (.int o)∧¬ (0≤o∧o < d)∧-1000≤o∧o≤1000:=by
   rcases (show cell / 50 % 2=0∨cell / 50 % 2=1 by omega) with h | h
   ·exact ⟨_,by rw [h];exact atI_nat (j:=0) rfl,by omega,by omega,by omega⟩
   ·exact ⟨_,by rw [h];exact atI_nat (j:=1) rfl,by omega,by omega,by omega⟩
  refine r_ixL (SqL.of pr3) hat ?_
  walk_at "w";refine ⟨od,_,pos,_,rfl,rfl,s3 _ _ od2,hp0,by rw [List.length_map];omega,small1000 (by rw [List.length_map];omega),?_⟩
  have eo:(word.map V.int).take pos.toNat++[V.int o]++(word.map V.int).drop pos.toNat=(word.take pos.toNat++[o]++word.drop pos.toNat).map V.int:=by simp
  rw [eo]
  have omem:o∈word.take pos.toNat++[o]++word.drop pos.toNat:=by simp
  have olen:(word.take pos.toNat++[o]++word.drop pos.toNat).length≤7:=by simp;omega
  have osm:SmallW (word.take pos.toNat++[o]++word.drop pos.toNat):=fun x hx=>by
   simp only [List.mem_append,List.mem_singleton] at hx
   rcases hx with (hx | hx) | hx
   ·have:=wok x (List.mem_of_mem_take hx);omega
   ·omega
   ·have:=wok x (List.mem_of_mem_drop hx);omega
  generalize word.take pos.toNat++[o]++word.drop pos.toNat=odd at omem olen osm ⊢
  have nok:¬ WordOk d odd:=fun z=>ho1 (z o omem)
  have k4:∀ b u,b≠od→H3 b=some u→upd H3 od (.lst (odd.map V.int)) b=some u:=fun b u hb e=>by rw [upd_ne hb];exact e
  have od4:(upd H3 od (.lst (odd.map V.int))) od=some (.lst (odd.map V.int)):=upd_same
  generalize upd H3 od (.lst (odd.map V.int))=H4 at k4 od4 ⊢
  have s04:Same H H4:=fun b u e=>k4 b u (fun z=>by rw [z] at e;rw [s1 _ _ e] at hod;cases hod) (s3 _ _ (s2 _ _ (s1 _ _ e)))
  have wd4:H4 wd=some (.lst (word.map V.int)):=k4 _ _ nwo (s3 _ _ (s2 _ _ wd1))
  have S4:=S.same s04
  have SP4:=SP.keep (H':=H4) fun b _ u e=>s04 b u e
  have wsm:SmallW word:=wok_small wok hd6
  clear k4 eo omem hat hp0 hp1 pr3 s3 hpr od2 s2 hod wd1 s1 hwd l0 l1 l2
  obtain ⟨rows4,f4,l4,R4⟩:=S4.ex
  obtain ⟨dx,fs,ho,hf⟩:=l4.ob
  walk_at "w";refine ⟨lp,dx,_,rfl,ho,hf.no _ (by decide +kernel),?_⟩
  refine ⟨lp,d,L,kn,heads,tails,rows4,f4,rfl,l4,R4,sm,S.I.lines1000 sm.hs,fun hq H5 rows5 l5 R5 st5=>?_,fun w hq H5 rows5 f5 wa l5 R5 st5 hwn hwa=>?_⟩
  ·have Cl:=closed_of S.st hq
   have S5:LS t.C_Learner t.C_Book H5 lp d L kn heads tails:=⟨⟨_,_,l5,R5⟩,S.I,S.st⟩
   obtain ⟨dx5,fs5,ho5,hf5⟩:=l5.ob
   have VJ:=S.I.valid Cl hd1 hd6 sm.hs
   walk_at "w";refine ⟨rfl,?_⟩
   walk_at "w";refine r_iteN rfl ?_
   walk_at "w";refine ⟨lp,dx5,_,rfl,ho5,hf5.no _ (by decide +kernel),?_⟩
   refine ⟨lp,d,L,kn,heads,tails,rfl,S5,sm,hd1,hd6,fun _ H6 gp gw gs gl S6 st6 hh6 new6=>?_,fun z=>absurd hq z⟩
   obtain ⟨rows6,f6,l6,R6⟩:=S6.ex
   have st46:=st5.trans st6
   have wd6:=st46.kp _ _ (fun z=>nwd (own_mut z)) wd4
   have od6:=st46.kp _ _ (fun z=>nod (own_mut z)) od4
   have SP6:=SP4.keep (H':=H6) fun b hb u e=>st46.kp b u (fun z=>out b hb (own_mut z)) e
   have nd:=l6.book.nd
   have kn0:0 < kn.length:=by
    obtain ⟨b,hb⟩:=next_none.mp hq [] (mem_lines.mpr ⟨[],S.I.mem0,.inl rfl⟩) [] (List.mem_of_getElem? S.I.tl0)
    cases kn with
    | nil=>simp [saidO] at hb
    | cons e r=>simp
   have c0:0≤cell % (kn.length:Int):=Int.emod_nonneg _ (by omega)
   have c1:cell % (kn.length:Int) < (kn.length:Int):=Int.emod_lt_of_pos _ (by omega)
   obtain ⟨j,hj⟩:∃ j:Nat,cell % (kn.length:Int)=(j:Int):=⟨(cell % (kn.length:Int)).toNat,by omega⟩
   have hjk:j < kn.length:=by omega
   obtain ⟨⟨pw,pb⟩,hkj⟩:∃ e,kn[j]?=some e:=⟨_,List.getElem?_eq_getElem hjk⟩
   obtain ⟨ps,hps⟩:∃ x,sA[j]?=some x:=⟨_,List.getElem?_eq_getElem (by rw [SP6.l1];exact hjk)⟩
   obtain ⟨pq,hpq⟩:∃ x,qA[j]?=some x:=⟨_,List.getElem?_eq_getElem (by rw [SP6.l2];exact hjk)⟩
   obtain ⟨g1,g2⟩:=SP6.row j ps pq pw pb hps hpq hkj
   have hsd:=saidO_at nd hkj
   obtain ⟨pok,pln⟩:=kok pw pb (List.mem_of_getElem? hkj)
   have npq:=out pq (by simp [List.mem_of_getElem? hpq])
   have hsy:=S.I.says Cl hsd
   walk_at "w";refine ⟨sa,_,rfl,.inl (SqL.of SP6.top),?_⟩
   rw [List.length_map,SP6.l1]
   walk_at "w";rw [hj]
   refine r_ixL (SqL.of SP6.top) (atI_nat (j:=j) (by rw [List.getElem?_map,hps];rfl)) ?_
   walk_at "w";refine ⟨by show 0≤sizeLine;decide,fun e0 he0=>?_⟩
   have t1:Same H6 (upd H6 e0 (.lst [])):=Same.upd_new he0
   have e01:(upd H6 e0 (.lst [])) e0=some (.lst (([]:List Int).map V.int)):=upd_same
   have n1:=l6.notOwn he0
   generalize upd H6 e0 (.lst [])=H7 at t1 e01 ⊢
   have l7:=l6.same t1
   walk_at "w";refine r_eq rfl ?_
   generalize decide (V.int (cell % 2)=V.int 1)=lit
   walk_at "w";refine ⟨by show 4≤sizeLine;decide,fun r1 hr1=>?_⟩
   have t2:Same H7 (upd H7 r1 (.lst [.int 0,.ref e0,.bl lit,.str "asked"])):=Same.upd_new hr1
   have r12:(upd H7 r1 (.lst [.int 0,.ref e0,.bl lit,.str "asked"])) r1=some (.lst [.int 0,.ref e0,.bl lit,.str (nmOf 0)]):=upd_same
   have n2:=l7.notOwn hr1
   generalize upd H7 r1 (.lst [.int 0,.ref e0,.bl lit,.str "asked"])=H8 at t2 r12 ⊢
   have l8:=l7.same t2
   walk_at "w";refine r_eq rfl ?_
   generalize decide (V.int (cell % 2)=V.int 1)=lit2
   walk_at "w";refine ⟨by show 4≤sizeLine;decide,fun r2 hr2=>?_⟩
   have t3:Same H8 (upd H8 r2 (.lst [.int 2,.ref od,.bl lit2,.str "word"])):=Same.upd_new hr2
   have r23:(upd H8 r2 (.lst [.int 2,.ref od,.bl lit2,.str "word"])) r2=some (.lst [.int 2,.ref od,.bl lit2,.str (nmOf 2)]):=upd_same
   have n3:=l8.notOwn hr2
   generalize upd H8 r2 (.lst [.int 2,.ref od,.bl lit2,.str "word"])=H9 at t3 r23 ⊢
   have l9:=l8.same t3
   walk_at "w";have g19:=t3 _ _ (t2 _ _ (t1 _ _ g1))
   refine r_ixL (SqL.of g19) (atI_nat (j:=0) rfl) ?_
   walk_at "w";refine r_ixL (SqL.of g19) (atI_nat (j:=1) rfl) ?_
   walk_at "w";refine ⟨by show 4≤sizeLine;decide,fun r3 hr3=>?_⟩
   have t4:Same H9 (upd H9 r3 (.lst [.int 2,.ref pq,.bl (!pb),.str "otherwise"])):=Same.upd_new hr3
   have r34:(upd H9 r3 (.lst [.int 2,.ref pq,.bl (!pb),.str "otherwise"])) r3=some (.lst [.int 2,.ref pq,.bl (!pb),.str (nmOf 3)]):=upd_same
   have n4:=l9.notOwn hr3
   generalize upd H9 r3 (.lst [.int 2,.ref pq,.bl (!pb),.str "otherwise"])=H10 at t4 r34 ⊢
   have l10:=l9.same t4
   walk_at "w";refine ⟨by show 3≤sizeLine;decide,fun ra hra=>?_⟩
   have t5:Same H10 (upd H10 ra (.lst [.ref r1,.ref r2,.ref r3])):=Same.upd_new hra
   have ra5:(upd H10 ra (.lst [.ref r1,.ref r2,.ref r3])) ra=some (.lst ([r1,r2,r3].map V.ref)):=upd_same
   have n5:=l10.notOwn hra
   generalize upd H10 ra (.lst [.ref r1,.ref r2,.ref r3])=H11 at t5 ra5 ⊢
   have l11:=l10.same t5
   walk_at "w";refine ⟨.inl ⟨rfl,_,SqL.of ra5⟩,?_⟩
   walk_at "w";have g111:=t5 _ _ (t4 _ _ g19)
   refine r_ixL (SqL.of g111) (atI_nat (j:=0) rfl) ?_
   walk_at "w";refine r_ixL (SqL.of g111) (atI_nat (j:=1) rfl) ?_
   walk_at "w";refine ⟨by show 4≤sizeLine;decide,fun r4 hr4=>?_⟩
   have t6:Same H11 (upd H11 r4 (.lst [.int 2,.ref pq,.bl pb,.str "wrong"])):=Same.upd_new hr4
   have r46:(upd H11 r4 (.lst [.int 2,.ref pq,.bl pb,.str "wrong"])) r4=some (.lst [.int 2,.ref pq,.bl pb,.str (nmOf 4)]):=upd_same
   have n6:=l11.notOwn hr4
   generalize upd H11 r4 (.lst [.int 2,.ref pq,.bl pb,.str "wrong"])=H12 at t6 r46 ⊢
   have l12:=l11.same t6
   walk_at "w";refine ⟨ra,_,_,rfl,rfl,t6 _ _ ra5,small1000 (by simp),?_⟩
   have k13:∀ b u,b≠ra→H12 b=some u→upd H12 ra (.lst ([r1,r2,r3].map V.ref++[.ref r4])) b=some u:=fun b u hb e=>by rw [upd_ne hb];exact e
   have ra13:(upd H12 ra (.lst ([r1,r2,r3].map V.ref++[.ref r4]))) ra=some (.lst ([r1,r2,r3,r4].map V.ref)):=upd_same
   generalize upd H12 ra (.lst ([r1,r2,r3].map V.ref++[.ref r4]))=H13 at k13 ra13 ⊢
   have s610:Same H6 H10:=t1.trans (t2.trans (t3.trans t4))
   have kk:∀ b u,H10 b=some u→H13 b=some u:=fun b u e=>k13 b u (ne_of_none e hra) (t6 _ _ (t5 _ _ e))
   have s613:Same H6 H13:=fun b u e=>kk b u (s610 b u e)
   have r413:H13 r4=some (.lst [.int 2,.ref pq,.bl pb,.str (nmOf 4)]):=k13 _ _ (fun z=>by rw [z,ra5] at hr4;cases hr4) r46
   have l13:LrnAt t.C_Learner t.C_Book H13 lp d L kn heads tails rows6 f6:=l6.same s613
   have gh13:=hh6.same s613
   obtain ⟨gdx,hgo⟩:=gh13.ob
   have wd13:=s613 _ _ wd6
   obtain ⟨u0,u1⟩:=walkI_in VJ.toWays wok (Int.le_refl 0) (by have:=VJ.r1;omega)
   have hlt:(walkI (guessW d kn heads tails) 0 word).toNat < (guessL kn heads).length:=by rw [VJ.ll];omega
   have hlv:(guessL kn heads)[(walkI (guessW d kn heads tails) 0 word).toNat]?=some (lampW (guessW d kn heads tails) (guessL kn heads) word):=by
    unfold lampW;rw [List.getD_eq_getElem?_getD,List.getElem?_eq_getElem hlt];rfl
   walk_at "w";refine ⟨_,rfl,gp,_,gdx,_,_,rfl,hgo,T.cl_House,T.na_House_lamps,hfs_lamps _ _ _,?_⟩
   walk_at "w";refine ⟨_,rfl,gp,_,gdx,_,_,rfl,hgo,T.cl_House,T.na_House_ways,hfs_ways _ _ _,?_⟩
   walk_at "w";refine ⟨gw,gs,_,d,0,wd,word,rfl,gh13.ways,VJ.toWays,SqL.of wd13,wok,Int.le_refl 0,by have:=VJ.r1;omega,?_⟩
   refine r_ixL (SqL.of gh13.lamps) (atI_get' u0 (bl_map_get hlv)) ?_
   have hns:saidO kn word≠some (!lampW (guessW d kn heads tails) (guessL kn heads) word):=fun z=>by
    have:=S.I.says Cl z
    cases h:lampW (guessW d kn heads tails) (guessL kn heads) word <;> rw [h] at this <;> cases this
   obtain ⟨lam,hlam⟩:∃ lam,lam=lampW (guessW d kn heads tails) (guessL kn heads) word:=⟨_,rfl⟩
   rw [← hlam] at hns ⊢
   clear hlv hlt u0 u1
   walk_at "w";refine ⟨by show 4≤sizeLine;decide,fun r5 hr5=>?_⟩
   have t7:Same H13 (upd H13 r5 (.lst [.int 2,.ref wd,.bl lam,.str "wrong"])):=Same.upd_new hr5
   have r57:(upd H13 r5 (.lst [.int 2,.ref wd,.bl lam,.str "wrong"])) r5=some (.lst [.int 2,.ref wd,.bl lam,.str (nmOf 4)]):=upd_same
   have n7:=l13.notOwn hr5
   generalize upd H13 r5 (.lst [.int 2,.ref wd,.bl lam,.str "wrong"])=H14 at t7 r57 ⊢
   have l14:=l13.same t7
   walk_at "w";refine ⟨by show 1≤sizeLine;decide,fun lx hlx=>?_⟩
   have t8:Same H14 (upd H14 lx (.lst [.ref r5])):=Same.upd_new hlx
   have lx8:(upd H14 lx (.lst [.ref r5])) lx=some (.lst [.ref r5]):=upd_same
   have n8:=l14.notOwn hlx
   generalize upd H14 lx (.lst [.ref r5])=H15 at t8 lx8 ⊢
   have l15:=l14.same t8
   refine ⟨ra,lx,_,_,rfl,rfl,t8 _ _ (t7 _ _ ra13),lx8,Nat.le_of_lt (small1000 (by simp)),fun z hz=>?_⟩
   have t9:Same H15 (upd H15 z (.lst ([r1,r2,r3,r4].map V.ref++[.ref r5]))):=Same.upd_new hz
   have z9:(upd H15 z (.lst ([r1,r2,r3,r4].map V.ref++[.ref r5]))) z=some (.lst ([r1,r2,r3,r4,r5].map V.ref)):=upd_same
   have n9:=l15.notOwn hz
   generalize upd H15 z (.lst ([r1,r2,r3,r4].map V.ref++[.ref r5]))=H16 at t9 z9 ⊢
   have l16:=l15.same t9
   have s1316:Same H13 H16:=t7.trans (t8.trans t9)
   have k10:∀ b u,H10 b=some u→H16 b=some u:=fun b u e=>s1316 b u (kk b u e)
   have k8:∀ b u,H8 b=some u→H16 b=some u:=fun b u e=>k10 b u (t4 _ _ (t3 _ _ e))
   have s616:Same H6 H16:=s613.trans s1316
   refine q H16 z [r1,r2,r3,r4,r5] [e0,od,pq,pq,wd] [(0,[],lit,0),(2,odd,lit2,2),(2,pw,!pb,3),(2,pw,pb,4),(2,word,lam,4)] ⟨⟨_,_,l16,R6⟩,S.I,S.st⟩ ((LStep.same s04).trans (st46.trans (.same s616))) (RowsR.of z9 ⟨⟨k8 _ _ r12,k8 _ _ (t2 _ _ e01)⟩,⟨k10 _ _ (t4 _ _ r23),s616 _ _ od6⟩,⟨k10 _ _ r34,s616 _ _ g2⟩,⟨s1316 _ _ r413,s616 _ _ g2⟩,⟨t9 _ _ (t8 _ _ r57),s616 _ _ wd6⟩,trivial⟩) (fun b hb=>?_) (fun what ws lt k hm=>?_)
   ·simp only [List.mem_cons,List.mem_append,List.not_mem_nil,or_false,false_or,List.cons_append,List.nil_append] at hb
    rcases hb with rfl | rfl | rfl | rfl | rfl | rfl | rfl | rfl | rfl | rfl | rfl
    ·exact n9
    ·exact n2
    ·exact n3
    ·exact n4
    ·exact n6
    ·exact n7
    ·exact n1
    ·exact nod
    ·exact npq
    ·exact npq
    ·exact nwd
   ·simp only [List.mem_cons,List.not_mem_nil,or_false,Prod.mk.injEq] at hm
    have psm:SmallW pw:=wok_small pok hd6
    have e2:pb=!(!pb):=by cases pb <;> rfl
    rcases hm with ⟨rfl,rfl,rfl,rfl⟩ | ⟨rfl,rfl,rfl,rfl⟩ | ⟨rfl,rfl,rfl,rfl⟩ | ⟨rfl,rfl,rfl,rfl⟩ | ⟨rfl,rfl,rfl,rfl⟩
    ·exact ⟨fun x hx=>by simp at hx,by simp,.inl ⟨rfl,hq,rfl⟩⟩
    ·exact ⟨osm,by omega,.inr (.inr (.inl ⟨rfl,hq,.inl ⟨nok,rfl⟩⟩))⟩
    ·exact ⟨psm,pln,.inr (.inr (.inl ⟨rfl,hq,.inr (.inl ⟨pok,by rw [← e2];exact hsd,rfl⟩)⟩))⟩
    ·refine ⟨psm,pln,.inr (.inr (.inl ⟨rfl,hq,.inr (.inr ⟨pok,?_,hsy,rfl⟩)⟩))⟩
     rw [hsd]
     intro z
     have z:=Option.some.inj z
     revert z
     cases lt <;> simp
    ·exact ⟨wsm,by omega,.inr (.inr (.inl ⟨rfl,hq,.inr (.inr ⟨wok,hns,hlam.symm,rfl⟩)⟩))⟩
  ·have hq':nextQ d kn heads tails≠none:=by rw [hq];simp
   have wd5:=st5.kp _ _ (fun z=>nwd (own_mut z)) wd4
   have od5:=st5.kp _ _ (fun z=>nod (own_mut z)) od4
   walk_at "w";refine ⟨rfl,?_⟩
   walk_at "w";refine r_iteP rfl ?_
   walk_at "w";refine ⟨Nat.zero_le _,fun e0 he0=>?_⟩
   have t1:Same H5 (upd H5 e0 (.lst [])):=Same.upd_new he0
   have e01:(upd H5 e0 (.lst [])) e0=some (.lst (([]:List Int).map V.int)):=upd_same
   have n0:=l5.notOwn he0
   generalize upd H5 e0 (.lst [])=H6 at t1 e01 ⊢
   have l6:=l5.same t1
   walk_at "w";refine ⟨by show 4≤sizeLine;decide,fun r1 hr1=>?_⟩
   have t2:Same H6 (upd H6 r1 (.lst [.int 1,.ref e0,.bl true,.str "yet"])):=Same.upd_new hr1
   have r12:(upd H6 r1 (.lst [.int 1,.ref e0,.bl true,.str "yet"])) r1=some (.lst [.int 1,.ref e0,.bl true,.str (nmOf 1)]):=upd_same
   have n1:=l6.notOwn hr1
   generalize upd H6 r1 (.lst [.int 1,.ref e0,.bl true,.str "yet"])=H7 at t2 r12 ⊢
   have l7:=l6.same t2
   walk_at "w";refine r_eq rfl ?_
   walk_at "w";refine ⟨by show 4≤sizeLine;decide,fun r2 hr2=>?_⟩
   generalize decide (V.int (cell % 2)=V.int 1)=lit
   have t3:Same H7 (upd H7 r2 (.lst [.int 2,.ref wd,.bl lit,.str "yet"])):=Same.upd_new hr2
   have r23:(upd H7 r2 (.lst [.int 2,.ref wd,.bl lit,.str "yet"])) r2=some (.lst [.int 2,.ref wd,.bl lit,.str (nmOf 1)]):=upd_same
   have n2:=l7.notOwn hr2
   generalize upd H7 r2 (.lst [.int 2,.ref wd,.bl lit,.str "yet"])=H8 at t3 r23 ⊢
   have l8:=l7.same t3
   walk_at "w";refine r_eq rfl ?_
   walk_at "w";refine ⟨by show 4≤sizeLine;decide,fun r3 hr3=>?_⟩
   generalize decide (V.int (cell % 2)=V.int 1)=lit2
   have t4:Same H8 (upd H8 r3 (.lst [.int 2,.ref od,.bl lit2,.str "yet"])):=Same.upd_new hr3
   have r34:(upd H8 r3 (.lst [.int 2,.ref od,.bl lit2,.str "yet"])) r3=some (.lst [.int 2,.ref od,.bl lit2,.str (nmOf 1)]):=upd_same
   have n3:=l8.notOwn hr3
   generalize upd H8 r3 (.lst [.int 2,.ref od,.bl lit2,.str "yet"])=H9 at t4 r34 ⊢
   have l9:=l8.same t4
   walk_at "w";refine ⟨by show 3≤sizeLine;decide,fun ra hra=>?_⟩
   have t5:Same H9 (upd H9 ra (.lst [.ref r1,.ref r2,.ref r3])):=Same.upd_new hra
   have ra5:(upd H9 ra (.lst [.ref r1,.ref r2,.ref r3])) ra=some (.lst ([r1,r2,r3].map V.ref)):=upd_same
   have n4:=l9.notOwn hra
   generalize upd H9 ra (.lst [.ref r1,.ref r2,.ref r3])=H10 at t5 ra5 ⊢
   have l10:=l9.same t5
   have t410:Same H8 H10:=t4.trans t5
   have t310:Same H7 H10:=t3.trans t410
   have t210:Same H6 H10:=t2.trans t310
   have t110:Same H5 H10:=t1.trans t210
   refine q H10 ra [r1,r2,r3] [e0,wd,od] [(1,[],true,1),(2,word,lit,1),(2,odd,lit2,1)] ⟨⟨_,_,l10,R5⟩,S.I,S.st⟩ ((LStep.same s04).trans (st5.trans (.same t110))) (RowsR.of ra5 ⟨⟨t310 _ _ r12,t210 _ _ e01⟩,⟨t410 _ _ r23,t110 _ _ wd5⟩,⟨t5 _ _ r34,t110 _ _ od5⟩,trivial⟩) (fun b hb=>?_) (fun what ws lt k hm=>?_)
   ·simp only [List.mem_cons,List.mem_append,List.not_mem_nil,or_false,false_or,List.cons_append,List.nil_append] at hb
    rcases hb with rfl | rfl | rfl | rfl | rfl | rfl | rfl
    ·exact n4
    ·exact n1
    ·exact n2
    ·exact n3
    ·exact n0
    ·exact nwd
    ·exact nod
   ·simp only [List.mem_cons,List.not_mem_nil,or_false,Prod.mk.injEq] at hm
    rcases hm with ⟨rfl,rfl,rfl,rfl⟩ | ⟨rfl,rfl,rfl,rfl⟩ | ⟨rfl,rfl,rfl,rfl⟩
    ·exact ⟨fun x hx=>by simp at hx,by simp,.inr (.inl ⟨.inl rfl,hq',rfl⟩)⟩
    ·exact ⟨wsm,by omega,.inr (.inl ⟨.inr rfl,hq',rfl⟩)⟩
    ·exact ⟨osm,by omega,.inr (.inl ⟨.inr rfl,hq',rfl⟩)⟩
theorem sc_law:FnScope ["script","doors","ways","lamps","learner","said","far","odd","what","turn","word","guess"] ["script"] (defScope s_law):=⟨rfl,rfl,rfl,by decide +kernel,rfl,by decide +kernel,by decide +kernel⟩
def sp_law (K:PySem.W.Frag):Sp:=fun vs H Q _=>∃ (a:Addr) (ns:List Int),vs=[.ref a]∧SqL K H a (ns.map V.int)∧ns.length≤63∧∀ H',Q (.bl true) H'
theorem _root_.L2.pi_tupK {X:Cx} (K:PySem.W.Frag) {tg l:Expr} {tl:TE} (hl:PE X l tl) (hK:X.K=K:=by rfl):PI X tg l (iTup K tl):=by subst hK;exact pi_tup hl
theorem r_itup {K:PySem.W.Frag} {tl:TE} {σ:L2.St} {H:Hp} {R:It→Hp→Prop} (h:tl σ H fun x H1=>∃ a,x=.ref a∧(∃ xs,SqT K H1 a xs)∧R (Itt K a) H1):iTup K tl σ H R:=h
structure I20 (t:Adr) (H0 H:Hp) (lp:Addr) (d:Int) (rss:List (List Int)) (ls:List Bool) (sa:Addr) (i:Nat) (L:LA) (kn:Bk) (heads tails:List (List Int)) (sA qA:List Addr):Prop where
 S:LS t.C_Learner t.C_Book H lp d L kn heads tails
 E:Env H0 H lp L
 F:Fits rss ls kn
 kl:kn.length=i
 ti:tails.length≤1+40 * i
 tw:∀ t∈tails,t.length≤40
 SP:SaidP H sa sA qA kn
 out:∀ b∈sa :: (sA++qA),b∉ownL lp L
 sep:sa∉sA++qA
 s0:H0 sa=none
 kok:∀ w b,(w,b)∈kn→WordOk d w∧w.length≤900
theorem I20.step {t:Adr} {H0 H H':Hp} {lp:Addr} {d:Int} {rss:List (List Int)} {ls:List Bool} {sa:Addr} {i:Nat} {L:LA} {kn:Bk} {heads tails:List (List Int)} {sA qA:List Addr} (J:I20 t H0 H lp d rss ls sa i L kn heads tails sA qA) (S':LS t.C_Learner t.C_Book H' lp d L kn heads tails) (st:LStep lp L L H H'):I20 t H0 H' lp d rss ls sa i L kn heads tails sA qA :=
 ⟨S',J.E.step st,J.F,J.kl,J.ti,J.tw,J.SP.keep (fun b hb o e=>st.kp b o (fun z=>J.out b hb (own_mut z)) e),J.out,J.sep,J.s0,J.kok⟩
theorem I20.small {t:Adr} {H0 H:Hp} {lp:Addr} {d:Int} {rss:List (List Int)} {ls:List Bool} {sa:Addr} {i:Nat} {L:LA} {kn:Bk} {heads tails:List (List Int)} {sA qA:List Addr} (J:I20 t H0 H lp d rss ls sa i L kn heads tails sA qA) (hi:i≤30):Small heads tails kn∧heads.length≤i+1:=by
 have h1:=J.S.I.len
 have h2:=J.kl
 have h3:=J.ti
 exact ⟨⟨by omega,by omega,fun x hx=>by have:=J.tw x hx;omega,by omega⟩,by omega⟩
theorem I20.add {t:Adr} {H0 H H' H9:Hp} {lp:Addr} {d:Int} {rss:List (List Int)} {ls:List Bool} {sa:Addr} {i:Nat} {L L':LA} {kn:Bk} {heads tails heads' tails':List (List Int)} {sA qA:List Addr} {w:List Int} {x y:Addr} (J:I20 t H0 H lp d rss ls sa i L kn heads tails sA qA)
  (kp:∀ b o,b≠sa→H b=some o→H' b=some o) (top:H' sa=some (.lst ((sA++[x]).map V.ref))) (hx:H' x=some (.lst [.ref y,.bl (lampW rss ls w)])) (hy:H' y=some (.lst (w.map V.int))) (nx:x∉ownL lp L) (ny:y∉ownL lp L) (xs:x≠sa) (ys:y≠sa)
  (S':LS t.C_Learner t.C_Book H9 lp d L' (kn++[(w,lampW rss ls w)]) heads' tails') (st:LStep lp L L' H' H9) (hti:tails'.length≤1+40 * (i+1)) (htw:∀ t∈tails',t.length≤40) (hwo:WordOk d w) (hwl:w.length≤900):I20 t H0 H9 lp d rss ls sa (i+1) L' (kn++[(w,lampW rss ls w)]) heads' tails' (sA++[x]) (qA++[y]):=by
 have nsa:=J.out sa (by simp)
 have sep:=J.sep
 simp only [List.mem_append,not_or] at sep
 have E':Env H0 H' lp L:=J.E.keep fun b o e0 e=>kp b o (fun z=>by rw [z,J.s0] at e0;cases e0) e
 have SP':SaidP H' sa (sA++[x]) (qA++[y]) (kn++[(w,lampW rss ls w)]):=by
  refine ⟨top,by rw [List.length_append,List.length_append,J.SP.l1];rfl,by rw [List.length_append,List.length_append,J.SP.l2];rfl,fun j s q v b h1 h2 h3=>?_⟩
  by_cases hj:j < kn.length
  ·rw [List.getElem?_append_left (by rw [J.SP.l1];exact hj)] at h1
   rw [List.getElem?_append_left (by rw [J.SP.l2];exact hj)] at h2
   rw [List.getElem?_append_left hj] at h3
   obtain ⟨g1,g2⟩:=J.SP.row j s q v b h1 h2 h3
   exact ⟨kp _ _ (fun z=>sep.1 (z ▸ List.mem_of_getElem? h1)) g1,kp _ _ (fun z=>sep.2 (z ▸ List.mem_of_getElem? h2)) g2⟩
  ·have hl:=(List.getElem?_eq_some_iff.mp h3).1
   rw [List.length_append,List.length_singleton] at hl
   have hj2:j=kn.length:=by omega
   subst hj2
   rw [← J.SP.l1,List.getElem?_append_right (Nat.le_refl _),Nat.sub_self] at h1
   rw [← J.SP.l2,List.getElem?_append_right (Nat.le_refl _),Nat.sub_self] at h2
   rw [List.getElem?_append_right (Nat.le_refl _),Nat.sub_self] at h3
   cases h1;cases h2;cases h3
   exact ⟨hx,hy⟩
 have nout:∀ b∈sa :: ((sA++[x])++(qA++[y])),b∉ownL lp L:=fun b hb=>by
  simp only [List.mem_cons,List.mem_append,List.not_mem_nil,or_false] at hb
  rcases hb with rfl | (h | rfl) | (h | rfl)
  ·exact nsa
  ·exact J.out b (by simp [h])
  ·exact nx
  ·exact J.out b (by simp [h])
  ·exact ny
 have has:∀ b∈sa :: ((sA++[x])++(qA++[y])),∃ o,H' b=some o:=fun b hb=>by
  simp only [List.mem_cons,List.mem_append,List.not_mem_nil,or_false] at hb
  rcases hb with rfl | (h | rfl) | (h | rfl)
  ·exact ⟨_,top⟩
  ·obtain ⟨j,hj⟩:=List.getElem?_of_mem h
   have hl:=(List.getElem?_eq_some_iff.mp hj).1
   have h2:j < qA.length:=by rw [J.SP.l2,← J.SP.l1];exact hl
   have h3:j < kn.length:=by rw [← J.SP.l1];exact hl
   exact ⟨_,kp _ _ (fun z=>sep.1 (z ▸ h)) (J.SP.row j b qA[j] kn[j].1 kn[j].2 hj (List.getElem?_eq_getElem h2) (List.getElem?_eq_getElem h3)).1⟩
  ·exact ⟨_,hx⟩
  ·obtain ⟨j,hj⟩:=List.getElem?_of_mem h
   have hl:=(List.getElem?_eq_some_iff.mp hj).1
   have h2:j < sA.length:=by rw [J.SP.l1,← J.SP.l2];exact hl
   have h3:j < kn.length:=by rw [← J.SP.l2];exact hl
   exact ⟨_,kp _ _ (fun z=>sep.2 (z ▸ h)) (J.SP.row j sA[j] b kn[j].1 kn[j].2 (List.getElem?_eq_getElem h2) hj (List.getElem?_eq_getElem h3)).2⟩
  ·exact ⟨_,hy⟩
 refine ⟨S',E'.step st,J.F.add w,by rw [List.length_append,List.length_singleton,J.kl],hti,htw,SP'.keep (fun b hb o e=>st.kp b o (fun z=>nout b hb (own_mut z)) e),fun b hb z=>?_,?_,J.s0,fun v b hv=>?_⟩
 ·rcases st.own b z with h | h
  ·exact nout b hb h
  ·obtain ⟨o,e⟩:=has b hb
   rw [h] at e;cases e
 ·simp only [List.mem_append,List.mem_singleton,not_or]
  exact ⟨⟨sep.1,Ne.symm xs⟩,sep.2,Ne.symm ys⟩
 ·rcases List.mem_append.mp hv with h | h
  ·exact J.kok v b h
  ·have e:=List.mem_singleton.mp h
   cases e
   exact ⟨hwo,hwl⟩
def F20 (t:Adr) (H0:Hp) (lp:Addr) (d:Int) (rss:List (List Int)) (ls:List Bool) (sa a aw al:Addr) (fr od:Int) (i:Nat) (σ:L2.St) (H':Hp):Prop:=∃ L kn heads tails sA qA k8 k9 k10 k11,I20 t H0 H' lp d rss ls sa i L kn heads tails sA qA∧σ=[some (.ref a),some (.int d),some (.ref aw),some (.ref al),some (.ref lp),some (.ref sa),some (.int fr),some (.int od),k8,k9,k10,k11]
theorem ok_law (T:Txt K mg t):FnOk P w K mg base CX0 13 t.f_law t.fd_law ["script"] (sp_law K):=by
 refine T.F_law.ok sc_law (fun vs H Q E h=>?_) (fun cdv A outer s H vs Q E hr h=>?_)
 ·obtain ⟨a,ns,rfl,_⟩:=h
  rfl
 ·obtain ⟨a,ns,rfl,hS,hlen,q⟩:=h
  refine ⟨_,pss_cons (ps_set (i:=1) sc_law.nd rfl (Or.inl rfl) (pe_op op_add (pe_int) (pe_op op_mod (pe_call (ok_l_cell_at T) (hr.mono (by decide)) rfl T.mg_l_cell_at T.F_l_cell_at.kp (b_l_cell_at T) .nil pass0 (pa_cons (pv 0) (pa_cons (pe_int) (pa_nil)))) (pe_int))))
 (pss_cons (ps_set (i:=2) sc_law.nd rfl (Or.inl rfl) (pe_call (ok_l_ways_by T) (hr.mono (by decide)) rfl T.mg_l_ways_by T.F_l_ways_by.kp (b_l_ways_by T) .nil pass0 (pa_cons (pe_call (ok_l_cell_at T) (hr.mono (by decide)) rfl T.mg_l_cell_at T.F_l_cell_at.kp (b_l_cell_at T) .nil pass0 (pa_cons (pv 0) (pa_cons (pe_int) (pa_nil)))) (pa_cons (pv 1) (pa_cons (pe_op op_add (pe_int) (pe_op op_mod (pe_call (ok_l_cell_at T) (hr.mono (by decide)) rfl T.mg_l_cell_at T.F_l_cell_at.kp (b_l_cell_at T) .nil pass0 (pa_cons (pv 0) (pa_cons (pe_int) (pa_nil)))) (pe_int))) (pa_nil))))))
 (pss_cons (ps_set (i:=3) sc_law.nd rfl (Or.inl rfl) (pe_call (ok_l_lamps_by T) (hr.mono (by decide)) rfl T.mg_l_lamps_by T.F_l_lamps_by.kp (b_l_lamps_by T) .nil pass0 (pa_cons (pe_call (ok_l_cell_at T) (hr.mono (by decide)) rfl T.mg_l_cell_at T.F_l_cell_at.kp (b_l_cell_at T) .nil pass0 (pa_cons (pv 0) (pa_cons (pe_int) (pa_nil)))) (pa_cons (pe_callB (call_len_seqK K) rfl T.m_len PySem.boot_len (pa_cons (pv 2) (pa_nil))) (pa_nil)))))
 (pss_cons (ps_set (i:=4) sc_law.nd rfl (Or.inl rfl) (pe_make T.mk_Learner (ok_Learner_init T) (hr.mono (by decide)) rfl T.mg_Learner (b_Learner_init T) .nil pass0X (pa_cons (pv 1) (pa_nil))))
 (pss_cons (ps_set (i:=5) sc_law.nd rfl (Or.inl rfl) (pe_lst (pa_nil)))
 (pss_cons (ps_set (i:=6) sc_law.nd rfl (Or.inl rfl) (pe_op op_mod (pe_op op_fdiv (pe_call (ok_l_cell_at T) (hr.mono (by decide)) rfl T.mg_l_cell_at T.F_l_cell_at.kp (b_l_cell_at T) .nil pass0 (pa_cons (pv 0) (pa_cons (pe_int) (pa_nil)))) (pe_int)) (pe_int)))
 (pss_cons (ps_set (i:=7) sc_law.nd rfl (Or.inl rfl) (pe_ix (ix_listK K) (pe_lst (pa_cons (pe_int) (pa_cons (pe_op op_sub (pe_op op_sub (pe_int) (pe_int)) (pv 6)) (pa_cons (pe_int) (pa_cons (pe_op op_add (pe_int) (pv 6)) (pa_nil)))))) (pe_op op_mod (pe_call (ok_l_cell_at T) (hr.mono (by decide)) rfl T.mg_l_cell_at T.F_l_cell_at.kp (b_l_cell_at T) .nil pass0 (pa_cons (pv 0) (pa_cons (pe_int) (pa_nil)))) (pe_int)) (fun _ _=>rfl)))
 (pss_cons (ps_for PassesOwn.never rfl (pi_tupK K (pe_tup (pa_cons (pe_int) (pa_cons (pe_int) (pa_nil))))) (pg_name (i:=8) sc_law.nd rfl (Or.inl rfl))
 (pss_one (ps_if (pt_cmpR op_ne (pe_call (ok_l_name T) (hr.mono (by decide)) rfl T.mg_l_name T.F_l_name.kp (b_l_name T) .nil pass0 (pa_cons (pv 4) (pa_cons (pv 8) (pa_cons (pe_lst (pa_cons (pv 7) (pa_nil))) (pa_cons (pe_bl) (pa_nil)))))) (pe_str) (nomark _))
 (pss_one (ps_ret (pe_bl)))
 (pss_nil))))
 (pss_cons (ps_for PassesOwn.never rfl (pi_range1 rfl T.m_range (pa_cons (pe_op op_add (pe_int) (pe_op op_mod (pe_call (ok_l_cell_at T) (hr.mono (by decide)) rfl T.mg_l_cell_at T.F_l_cell_at.kp (b_l_cell_at T) .nil pass0 (pa_cons (pv 0) (pa_cons (pe_int) (pa_nil)))) (pe_int))) (pa_nil))) (pg_name (i:=9) sc_law.nd rfl (Or.inl rfl))
 (pss_cons (ps_if (pt_not (pt_val (pe_call (ok_l_refusals_hold T) (hr.mono (by decide)) rfl T.mg_l_refusals_hold T.F_l_refusals_hold.kp (b_l_refusals_hold T) .nil pass0 (pa_cons (pv 4) (pa_cons (pe_call (ok_l_rows T) (hr.mono (by decide)) rfl T.mg_l_rows T.F_l_rows.kp (b_l_rows T) .nil pass0 (pa_cons (pv 4) (pa_cons (pv 5) (pa_cons (pe_call (ok_l_cell_at T) (hr.mono (by decide)) rfl T.mg_l_cell_at T.F_l_cell_at.kp (b_l_cell_at T) .nil pass0 (pa_cons (pv 0) (pa_cons (pe_op op_add (pe_int) (pv 9)) (pa_nil)))) (pa_cons (pv 1) (pa_nil)))))) (pa_nil))))))
 (pss_one (ps_ret (pe_bl)))
 (pss_nil))
 (pss_cons (ps_set (i:=10) sc_law.nd rfl (Or.inl rfl) (pe_meth0 (pv 4) T.cl_Learner T.me_Learner_question (ok_Learner_question T) (hr.mono (by decide)) (b_Learner_question T) .nil pass0))
 (pss_one (ps_join (ps_if (pt_cmpR op_notN (pv 10) (pe_non) (nomark _))
 (pss_cons (ps_expr (pe_bmK K PySem.F.plainAttrs_list PySem.F.slot_list_append PySem.F.type_list_append mt_append (pv 5) (pa_cons (pe_lst (pa_cons (pv 10) (pa_cons (pe_ix (ix_listK K) (pv 3) (pe_call (ok_l_walk T) (hr.mono (by decide)) rfl T.mg_l_walk T.F_l_walk.kp (b_l_walk T) .nil pass0 (pa_cons (pv 2) (pa_cons (pe_int) (pa_cons (pv 10) (pa_nil))))) (fun _ _=>rfl)) (pa_nil)))) (pa_nil))))
 (pss_one (ps_expr (pe_meth (pv 4) T.cl_Learner T.me_Learner_answer (ok_Learner_answer T) (hr.mono (by decide)) (b_Learner_answer T) .nil pass0X (pa_cons (pe_ix (ix_listK K) (pe_ix (ix_listK K) (pv 5) (pe_un un_neg (pe_int)) (fun _ _=>rfl)) (pe_int) (fun _ _=>rfl)) (pa_nil))))))
 (pss_cons (ps_set (i:=11) sc_law.nd rfl (Or.inl rfl) (pe_meth0 (pv 4) T.cl_Learner T.me_Learner_guess (ok_Learner_guess T) (hr.mono (by decide)) (b_Learner_guess T) .nil pass0X))
 (pss_cons (ps_set (i:=10) sc_law.nd rfl (Or.inl rfl) (pe_call (ok_l_part T) (hr.mono (by decide)) rfl T.mg_l_part T.F_l_part.kp (b_l_part T) .nil pass0 (pa_cons (pe_fldK K (pv 11) rfl) (pa_cons (pe_fldK K (pv 11) rfl) (pa_cons (pe_int) (pa_cons (pv 2) (pa_cons (pv 3) (pa_cons (pe_int) (pa_nil)))))))))
 (pss_cons (ps_if (pt_cmpR op_isN (pv 10) (pe_non) (nomark _))
 (pss_one (ps_ret (pe_bl)))
 (pss_nil))
 (pss_cons (ps_expr (pe_bmK K PySem.F.plainAttrs_list PySem.F.slot_list_append PySem.F.type_list_append mt_append (pv 5) (pa_cons (pe_lst (pa_cons (pv 10) (pa_cons (pe_ix (ix_listK K) (pv 3) (pe_call (ok_l_walk T) (hr.mono (by decide)) rfl T.mg_l_walk T.F_l_walk.kp (b_l_walk T) .nil pass0 (pa_cons (pv 2) (pa_cons (pe_int) (pa_cons (pv 10) (pa_nil))))) (fun _ _=>rfl)) (pa_nil)))) (pa_nil))))
 (pss_one (ps_expr (pe_meth (pv 4) T.cl_Learner T.me_Learner_wrong (ok_Learner_wrong T) (hr.mono (by decide)) (b_Learner_wrong T) .nil pass0X (pa_cons (pe_callTy (call_list_ofK K) rfl T.m_list boot_list (pa_cons (pv 10) (pa_nil))) (pa_cons (pe_ix (ix_listK K) (pe_ix (ix_listK K) (pv 5) (pe_un un_neg (pe_int)) (fun _ _=>rfl)) (pe_int) (fun _ _=>rfl)) (pa_nil))))))))))))))))
 (pss_one (ps_ret (pe_bl))))))))))),?_⟩
  walk_at "w";refine ⟨a,ns,0,rfl,hS,by decide,?_⟩
  walk_at "w";obtain ⟨d,hd⟩:∃ d,d=1+cellv ns 0 % 6:=⟨_,rfl⟩
  have hd1:1≤d:=by omega
  have hd6:d≤6:=by omega
  rw [← hd]
  clear hd
  refine ⟨a,ns,1,rfl,hS,by decide,?_⟩
  walk_at "w";refine ⟨a,ns,2,rfl,hS,by decide,?_⟩
  walk_at "w";obtain ⟨r,hr⟩:∃ r,r=1+cellv ns 2 % 3:=⟨_,rfl⟩
  have hr1:1≤r:=by omega
  have hr3:r≤3:=by omega
  rw [← hr]
  clear hr
  refine ⟨_,d,r,rfl,by omega,by omega,by omega,by omega,fun aw rs H1 s1 M1 new1=>?_⟩
  have hW:Ways d (waysBy (cellv ns 1) d r):=waysBy_ok _ (by omega) (by omega)
  have hWl:(waysBy (cellv ns 1) d r).length=r.toNat:=waysBy_len _ _ _
  generalize waysBy (cellv ns 1) d r=rss at M1 hW hWl
  walk_at "w";refine ⟨a,ns,3,rfl,sqL_same s1 hS,by decide,?_⟩
  walk_at "w";refine ⟨aw,_,rfl,.inl (SqL.of M1.top),?_⟩
  rw [List.length_map,M1.len]
  walk_at "w";refine ⟨_,_,rfl,by omega,by omega,fun al hal=>?_⟩
  have hLl:(lampsBy (cellv ns 3) (rss.length:Int)).length=rss.length:=by rw [lampsBy_len];omega
  generalize lampsBy (cellv ns 3) (rss.length:Int)=ls at hLl ⊢
  have s2:Same H1 (upd H1 al (.lst (ls.map V.bl))):=Same.upd_new hal
  have al2:(upd H1 al (.lst (ls.map V.bl))) al=some (.lst (ls.map V.bl)):=upd_same
  generalize upd H1 al (.lst (ls.map V.bl))=H2 at s2 al2 ⊢
  have M2:=M1.same s2
  have s02:=s1.trans s2
  have Vd:Valid d rss ls:={ row:=hW.row,d1:=hd1,d6:=hd6,r1:=by omega,r400:=by omega,ll:=hLl }
  clear M1 new1 hal s1 s2
  walk_at "w";intro lp ldx e1 e2 e3
  have sm0:Same H2 (upd (upd H2 ldx (.own lp)) lp (.ins t.C_Learner ldx [])):=(Same.upd_new e2).trans (Same.upd_new (by rw [upd_ne (Ne.symm e3)];exact e1))
  refine ⟨lp,ldx,d,rfl,upd_same,by omega,by omega,fun _ H3 L l3 keep3 new3=>⟨rfl,?_⟩,fun z=>absurd ⟨hd1,hd6⟩ z⟩
  have s3:Same H2 H3:=fun b o e=>keep3 b o (sm0 b o e) (ne_of_none e e1)
  have out3:∀ b∈ownL lp L,H2 b=none:=fun b hb=>by
   by_cases z:b=lp
   ·rw [z];exact e1
   ·exact sm0.free (new3 b hb z)
  have S3:LS t.C_Learner t.C_Book H3 lp d L [] [[]] [[]]:=by
   have R:RowsOk d [] [] [[]] [] 0:=⟨rfl,fun k r l h=>by simp at h,fun k r h=>by omega,Nat.le_refl _⟩
   have hq:nextQ d [] [[]] [[]]≠none:=fun z=>by
    obtain ⟨b,hb⟩:=next_none.mp z [] (mem_lines.mpr ⟨[],by simp,.inl rfl⟩) [] (by simp)
    simp [saidO] at hb
   exact ⟨⟨_,_,l3,R.head []⟩,LI.start d,.inl hq⟩
  clear keep3 new3 sm0 e1 e2 e3
  walk_at "w";refine ⟨Nat.zero_le _,fun sa hsa=>?_⟩
  have s4:Same H3 (upd H3 sa (.lst [])):=Same.upd_new hsa
  have sa4:(upd H3 sa (.lst [])) sa=some (.lst (([]:List Addr).map V.ref)):=upd_same
  have nsa:=l3.notOwn hsa
  generalize upd H3 sa (.lst [])=H4 at s4 sa4 ⊢
  have J0:I20 t H2 H4 lp d rss ls sa 0 L [] [[]] [[]] [] []:=⟨S3.same s4,⟨s3.trans s4,out3⟩,Fits.start _ _,rfl,by simp,fun x hx=>by simp at hx;simp [hx],⟨sa4,rfl,rfl,fun i s q w b h1=>by simp at h1⟩,fun b hb=>by simp at hb;rw [hb];exact nsa,by simp,s3.free hsa,fun w b h=>by simp at h⟩
  clear l3 S3 out3 s4 sa4
  walk_at "w";refine ⟨a,ns,4,rfl,sqL_same (s02.trans J0.E.same) hS,by decide,?_⟩
  walk_at "w";obtain ⟨fr,hfr⟩:∃ fr,fr=cellv ns 4 / 4 % 999:=⟨_,rfl⟩
  have hf0:0≤fr:=by omega
  have hf9:fr≤999:=by omega
  rw [← hfr]
  clear hfr
  refine ⟨by show 4≤sizeLine;decide,fun pr hpr=>?_⟩
  have s5:Same H4 (upd H4 pr (.lst [.int 0,.int (0 - 1 - fr),.int 7,.int (7+fr)])):=Same.upd_new hpr
  have pr5:(upd H4 pr (.lst [.int 0,.int (0 - 1 - fr),.int 7,.int (7+fr)])) pr=some (.lst [.int 0,.int (0 - 1 - fr),.int 7,.int (7+fr)]):=upd_same
  generalize upd H4 pr (.lst [.int 0,.int (0 - 1 - fr),.int 7,.int (7+fr)])=H5 at s5 pr5 ⊢
  have J5:=J0.step (J0.S.same s5) (.same s5)
  walk_at "w";refine ⟨a,ns,4,rfl,sqL_same (s02.trans J5.E.same) hS,by decide,?_⟩
  walk_at "w";obtain ⟨od,hat,hod1,hod2,hod3⟩:∃ o:Int,atI [V.int 0,V.int (0 - 1 - fr),V.int 7,V.int (7+fr)] (cellv ns 4 % 4)=some (.int o)∧¬ (1≤o∧o≤6)∧-2000≤o∧o≤2000:=by
   rcases (show cellv ns 4 % 4=0∨cellv ns 4 % 4=1∨cellv ns 4 % 4=2∨cellv ns 4 % 4=3 by omega) with h | h | h | h
   ·exact ⟨_,by rw [h];exact atI_nat (j:=0) rfl,by omega,by omega,by omega⟩
   ·exact ⟨_,by rw [h];exact atI_nat (j:=1) rfl,by omega,by omega,by omega⟩
   ·exact ⟨_,by rw [h];exact atI_nat (j:=2) rfl,by omega,by omega,by omega⟩
   ·exact ⟨_,by rw [h];exact atI_nat (j:=3) rfl,by omega,by omega,by omega⟩
  refine r_ixL (SqL.of pr5) hat ?_
  clear hat J0 pr5 hpr s5
  walk_at "w";refine r_itup ?_
  walk_at "w";refine ⟨by show 2≤sizeLine;decide,fun tp htp=>?_⟩
  have s6:Same H5 (upd H5 tp (.tup [.int 3,.int 4])):=Same.upd_new htp
  have tp6:(upd H5 tp (.tup [.int 3,.int 4])) tp=some (.tup [.int 3,.int 4]):=upd_same
  obtain ⟨rows5,f5,l5,_⟩:=J5.S.ex
  have ntp:=l5.notOwn htp
  generalize upd H5 tp (.tup [.int 3,.int 4])=H6 at s6 tp6 ⊢
  have J6:=J5.step (J5.S.same s6) (.same s6)
  clear J5 l5
  refine ⟨tp,rfl,⟨_,SqT.of tp6⟩,?_⟩
  refine for_tup (xs:=[V.int 3,V.int 4]) (fun i σ H'=>LS t.C_Learner t.C_Book H' lp d L [] [[]] [[]]∧LStep lp L L H6 H'∧∃ k8,σ=[some (.ref a),some (.int d),some (.ref aw),some (.ref al),some (.ref lp),some (.ref sa),some (.int fr),some (.int od),k8,none,none,none]) ⟨J6.S,.same (Same.refl _),_,rfl⟩ (fun i σ H' _ pp=>SqT.of (pp.2.1.kp _ _ (fun z=>ntp (own_mut z)) tp6)) (fun i x σ H7 hx pp=>?_) (fun σ H7 pp=>?_)
  ·obtain ⟨S7,st7,k8,rfl⟩:=pp
   obtain ⟨what,rfl,hwhat⟩:∃ n:Int,x=.int n∧(n=3∨n=4):=by
    rcases i with _ | _ | i
    ·simp at hx;exact ⟨3,hx.symm,.inl rfl⟩
    ·simp at hx;exact ⟨4,hx.symm,.inr rfl⟩
    ·simp at hx
   clear hx
   walk_at "w";refine ⟨by show 1≤sizeLine;decide,fun wb hwb=>?_⟩
   have s8:Same H7 (upd H7 wb (.lst [.int od])):=Same.upd_new hwb
   have wb8:(upd H7 wb (.lst [.int od])) wb=some (.lst ([od].map V.int)):=upd_same
   obtain ⟨rows7,f7,l7,_⟩:=S7.ex
   have nwb:=l7.notOwn hwb
   generalize upd H7 wb (.lst [.int od])=H8 at s8 wb8 ⊢
   walk_at "w";refine ⟨lp,d,L,[],[[]],[[]],what,wb,[od],true,5,rfl,⟨S7.same s8,(J6.small (by omega)).1,by simp,hd1,hd6,wb8,nwb,(fun x hx=>by rw [List.mem_singleton.mp hx];omega),by simp,.inr (.inr (.inr ⟨hwhat,rfl,od,rfl,hod1⟩))⟩,fun H9 S9 st9=>?_⟩
   walk_at "w";refine r_ne rfl ?_
   walk_at "w";refine r_iteN (by decide) ?_
   walk_at "w";exact ⟨S9,st7.trans ((LStep.same s8).trans st9),_,rfl⟩
  obtain ⟨S7,st7,k8,rfl⟩:=pp
  have J7:=J6.step S7 st7
  clear J6 S7 st7 tp6 ntp s6 htp
  walk_at "w";refine ⟨a,ns,5,rfl,sqL_same (s02.trans J7.E.same) hS,by decide,?_⟩
  walk_at "w";obtain ⟨tn,htn⟩:∃ tn,tn=1+cellv ns 5 % 30:=⟨_,rfl⟩
  have ht1:1≤tn:=by omega
  have ht30:tn≤30:=by omega
  rw [← htn]
  clear htn
  refine ⟨_,rfl,by omega,by omega,?_⟩
  refine for_range (F20 t H2 lp d rss ls sa a aw al fr od) ⟨L,_,_,_,_,_,_,_,_,_,J7,rfl⟩ (fun i σ H8 hi pp=>?_) (fun σ H8 pp=>?_)
  ·obtain ⟨L1,kn,heads,tails,sA,qA,k8,k9,k10,k11,J,rfl⟩:=pp
   clear J7
   have hi30:i < 30:=by omega
   obtain ⟨sm,hh⟩:=J.small (by omega)
   have e0:(0:Int)+(i:Int)=(i:Int):=by omega
   rw [e0]
   have hkl:=J.kl
   have hti:=J.ti
   walk_at "w";refine ⟨a,ns,_,rfl,sqL_same (s02.trans J.E.same) hS,by omega,?_⟩
   walk_at "w";refine ⟨lp,d,L1,kn,heads,tails,sa,sA,qA,_,rfl,J.S,sm,hd1,hd6,J.SP,J.out,J.kok,fun H9 ra rA wA sp S9 st9 RR outR dueR=>?_⟩
   have J9:=J.step S9 st9
   walk_at "w";refine ⟨lp,d,L1,kn,heads,tails,ra,rA,wA,sp,rfl,S9,sm,by omega,by omega,by omega,hd1,hd6,RR,outR,dueR,fun H10 S10 st10=>?_⟩
   have J10:=J9.step S10 st10
   clear J9 J RR outR dueR S9 st9 S10 st10
   walk_at "w";refine r_iteN rfl ?_
   obtain ⟨rows,f,l10,R10⟩:=J10.S.ex
   obtain ⟨dx,fs,ho,hf⟩:=l10.ob
   have al10:=J10.E.same _ _ al2
   have M10:=M2.same J10.E.same
   walk_at "w";refine ⟨lp,dx,_,rfl,ho,hf.no _ (by decide +kernel),?_⟩
   refine ⟨lp,d,L1,kn,heads,tails,rows,f,rfl,l10,R10,sm,J10.S.I.lines1000 sm.hs,fun hq H11 rows11 l11 R11 st11=>?_,fun w hq H11 rows11 f11 wa l11 R11 st11 hwn hwa=>?_⟩
   ·have S11:LS t.C_Learner t.C_Book H11 lp d L1 kn heads tails:=⟨⟨_,_,l11,R11⟩,J10.S.I,J10.S.st⟩
    have J11:=J10.step S11 st11
    have al11:=J11.E.same _ _ al2
    have M11:=M2.same J11.E.same
    clear J10 l10 al10 M10
    have Cl:=closed_of J11.S.st hq
    have VJ:=J11.S.I.valid Cl hd1 hd6 sm.hs
    have eG:(guessW d kn heads tails).length=heads.length:=by unfold guessW;rw [List.length_map]
    obtain ⟨dx11,fs11,ho11,hf11⟩:=l11.ob
    walk_at "w";refine r_join (F20 t H2 lp d rss ls sa a aw al fr od (i+1)) ?_ (fun σ' H' z=>z)
    walk_at "w";refine ⟨rfl,?_⟩
    walk_at "w";refine r_iteN rfl ?_
    walk_at "w";refine ⟨lp,dx11,_,rfl,ho11,hf11.no _ (by decide +kernel),?_⟩
    refine ⟨lp,d,L1,kn,heads,tails,rfl,S11,sm,hd1,hd6,fun _ H12 gp gw gs gl S12 st12 hh12 new12=>?_,fun z=>absurd hq z⟩
    have J12:=J11.step S12 st12
    have al12:=J12.E.same _ _ al2
    have M12:=M2.same J12.E.same
    clear J11 al11 M11 S11
    obtain ⟨gdx,hgo⟩:=hh12.ob
    walk_at "w";refine ⟨_,rfl,gp,_,gdx,_,_,rfl,hgo,T.cl_House,T.na_House_ways,hfs_ways _ _ _,?_⟩
    walk_at "w";refine ⟨_,rfl,gp,_,gdx,_,_,rfl,hgo,T.cl_House,T.na_House_lamps,hfs_lamps _ _ _,?_⟩
    walk_at "w";have PI:PairIn d (guessW d kn heads tails) rss (guessL kn heads) ls 0 0:=⟨VJ.toWays,hW,VJ.ll,Vd.ll,Int.le_refl 0,by have:=VJ.r1;omega,Int.le_refl 0,by omega,hd1,hd6,by
     rw [eG]
     have:=Nat.mul_le_mul (show heads.length≤31 by omega) (show rss.length≤3 by omega)
     omega⟩
    refine ⟨gw,gs,_,gl,_,0,aw,rs,rss,al,ls,0,d,rfl,hh12.ways,SqL.of hh12.lamps,M12,SqL.of al12,PI,fun H13 s13 heq=>?_,fun H13 wa w s13 hwa hwn P=>?_⟩
    ·walk_at "w";refine ⟨rfl,?_⟩
     walk_at "w";refine r_iteP rfl ?_
     walk_at "w";exact q _
    have J13:=J12.step (S12.same s13) (.same s13)
    have al13:=s13 _ _ al12
    have M13:=M12.same s13
    obtain ⟨rows12,f12,l12,R12⟩:=S12.ex
    have nwa:=l12.notOwn hwn
    have wsa:wa≠sa:=fun z=>by rw [z,J12.SP.top] at hwn;cases hwn
    clear J12 al12 M12
    have hno:saidO kn w=none:=by
     cases e:saidO kn w with
     | none=>rfl
     | some b=>exact absurd ((J13.S.I.says Cl e).trans (J13.F w b e).symm) P.un
    have hwo:WordOk d w:=P.ok
    have hgu:lampW (guessW d kn heads tails) (guessL kn heads) w=!lampW rss ls w:=by
     have hne:=P.un
     revert hne
     show lampW (guessW d kn heads tails) (guessL kn heads) w≠lampW rss ls w→_
     cases lampW (guessW d kn heads tails) (guessL kn heads) w <;> cases lampW rss ls w <;> simp
    have hw40:w.length≤40:=by
     have h1:=part_len VJ.toWays hW (Int.le_refl 0) (by have:=VJ.r1;omega) (Int.le_refl 0) (by have:=Vd.r1;omega) P.ok P.un fun u hu hul=>P.least u hu (slt_short hul)
     rw [eG] at h1
     omega
    obtain ⟨u0,u1⟩:=walkI_in hW hwo (Int.le_refl 0) (by omega)
    have hlt:(walkI rss 0 w).toNat < ls.length:=by rw [Vd.ll];omega
    have hlv:ls[(walkI rss 0 w).toNat]?=some (lampW rss ls w):=by
     unfold lampW;rw [List.getD_eq_getElem?_getD,List.getElem?_eq_getElem hlt];rfl
    walk_at "w";refine ⟨rfl,?_⟩
    walk_at "w";refine r_iteN rfl ?_
    walk_at "w";refine ⟨.inl ⟨rfl,_,SqL.of J13.SP.top⟩,?_⟩
    walk_at "w";refine ⟨aw,rs,rss,d,0,wa,w,rfl,M13,hW,SqL.of hwa,hwo,by omega,by omega,?_⟩
    refine r_ixL (SqL.of al13) (atI_get' u0 (bl_map_get hlv)) ?_
    walk_at "w";refine ⟨by show 2≤sizeLine;decide,fun x hx=>?_⟩
    have s14:Same H13 (upd H13 x (.lst [.ref wa,.bl (lampW rss ls w)])):=Same.upd_new hx
    have x14:(upd H13 x (.lst [.ref wa,.bl (lampW rss ls w)])) x=some (.lst [.ref wa,.bl (lampW rss ls w)]):=upd_same
    have nx:=(l12.same s13).notOwn hx
    have xsa:x≠sa:=fun z=>by rw [z,J13.SP.top] at hx;cases hx
    generalize upd H13 x (.lst [.ref wa,.bl (lampW rss ls w)])=H14 at s14 x14 ⊢
    walk_at "w";refine ⟨sa,_,_,rfl,rfl,s14 _ _ J13.SP.top,small1000 (by rw [List.length_map,J13.SP.l1];omega),?_⟩
    have k15:∀ b u,b≠sa→H13 b=some u→upd H14 sa (.lst (sA.map V.ref++[.ref x])) b=some u:=fun b u hb e=>by rw [upd_ne hb];exact s14 _ _ e
    have x15:(upd H14 sa (.lst (sA.map V.ref++[.ref x]))) x=some (.lst [.ref wa,.bl (lampW rss ls w)]):=by rw [upd_ne xsa];exact x14
    have sa15:(upd H14 sa (.lst (sA.map V.ref++[.ref x]))) sa=some (.lst ((sA++[x]).map V.ref)):=by rw [upd_same,List.map_append];rfl
    generalize upd H14 sa (.lst (sA.map V.ref++[.ref x]))=H15 at k15 x15 sa15 ⊢
    have S15:LS t.C_Learner t.C_Book H15 lp d L1 kn heads tails:=J13.S.keep fun b hb u e=>k15 b u (fun z=>J13.out sa (by simp) (z ▸ hb)) e
    have wa15:=k15 _ _ wsa hwa
    obtain ⟨rows15,f15,l15,_⟩:=S15.ex
    obtain ⟨dx15,fs15,ho15,hf15⟩:=l15.ob
    walk_at "w";refine ⟨lp,dx15,_,rfl,ho15,hf15.no _ (by decide +kernel),?_⟩
    walk_at "w";refine ⟨wa,_,rfl,.inl (SqL.of wa15),fun lb hlb=>?_⟩
    have s16:Same H15 (upd H15 lb (.lst (w.map V.int))):=Same.upd_new hlb
    have lb16:(upd H15 lb (.lst (w.map V.int))) lb=some (.lst (w.map V.int)):=upd_same
    have nlb:=l15.notOwn hlb
    generalize upd H15 lb (.lst (w.map V.int))=H16 at s16 lb16 ⊢
    walk_at "w";refine r_ixL (SqL.of (s16 _ _ sa15)) (by rw [List.map_append];exact atI_last _ _) ?_
    walk_at "w";refine r_ixL (SqL.of (s16 _ _ x15)) (atI_nat (j:=1) rfl) ?_
    walk_at "w";obtain ⟨rr,er,hrl⟩:=ends_pre (tails:=tails) (w:=w) w.length
    have hel:(ends tails w).length≤1+40 * (i+1):=by unfold ends;rw [er,List.length_append];omega
    have hew:∀ u∈ends tails w,u.length≤40:=fun u hu=>by
     rcases ends_inv hu with h | ⟨j,_,_,h⟩
     ·exact J13.tw u h
     ·rw [h,List.length_drop];omega
    refine ⟨lp,d,L1,kn,heads,tails,lb,w,_,rfl,S15.same s16,sm,by omega,hd1,hd6,lb16,nlb,wok_small hwo hd6,by omega,fun _ _ _ _=>⟨⟨sm.hs,by omega,fun u hu=>by have:=hew u hu;omega,sm.ks⟩,fun hs Ih=>by have:=Ih.len;rw [List.length_append,List.length_singleton] at this;omega,fun H17 L17 S17 st17=>?_⟩,fun z=>absurd hq z,fun _ z=>absurd hwo z,(fun _ _ z=>by rw [hno] at z;cases z),(fun _ _ _ z=>by rw [hgu] at z;exact absurd z (by cases lampW rss ls w <;> simp))⟩
    walk_at "w";exact ⟨L17,_,_,_,sA++[x],qA++[wa],_,_,_,_,J13.add (fun b u hb e=>s16 _ _ (k15 b u hb e)) (s16 _ _ sa15) (s16 _ _ x15) (s16 _ _ wa15) nx nwa xsa wsa S17 st17 hel hew hwo (by omega),rfl⟩
   ·have S11:LS t.C_Learner t.C_Book H11 lp d L1 kn heads tails:=⟨⟨_,_,l11,R11⟩,J10.S.I,J10.S.st⟩
    have J11:=J10.step S11 st11
    obtain ⟨hwo,hno⟩:=J10.S.I.qok hq
    have nwa:=l10.notOwn hwn
    have wsa:wa≠sa:=fun z=>by rw [z,J10.SP.top] at hwn;cases hwn
    have al11:=J11.E.same _ _ al2
    have M11:=M2.same J11.E.same
    clear J10 l10 al10 M10
    obtain ⟨u0,u1⟩:=walkI_in hW hwo (Int.le_refl 0) (by omega)
    have hlt:(walkI rss 0 w).toNat < ls.length:=by rw [Vd.ll];omega
    have hlv:ls[(walkI rss 0 w).toNat]?=some (lampW rss ls w):=by
     unfold lampW;rw [List.getD_eq_getElem?_getD,List.getElem?_eq_getElem hlt];rfl
    have hwl:w.length≤900:=by
     obtain ⟨l,hl,u,hu,e,_⟩:=next_some hq
     have h2:=J11.tw u hu
     have h3:l.length≤100:=by
      obtain ⟨g,hg,h | ⟨x,_,_,h⟩⟩:=mem_lines.mp hl
      ·have:=J11.S.I.hlenM hg;rw [h];omega
      ·have:=J11.S.I.hlenM hg;rw [h,List.length_append,List.length_singleton];omega
     rw [e,List.length_append];omega
    walk_at "w";refine r_join (F20 t H2 lp d rss ls sa a aw al fr od (i+1)) ?_ (fun σ' H' z=>z)
    walk_at "w";refine ⟨rfl,?_⟩
    walk_at "w";refine r_iteP rfl ?_
    walk_at "w";refine ⟨.inl ⟨rfl,_,SqL.of J11.SP.top⟩,?_⟩
    walk_at "w";refine ⟨aw,rs,rss,d,0,wa,w,rfl,M11,hW,SqL.of hwa,hwo,by omega,by omega,?_⟩
    refine r_ixL (SqL.of al11) (atI_get' u0 (bl_map_get hlv)) ?_
    walk_at "w";refine ⟨by show 2≤sizeLine;decide,fun x hx=>?_⟩
    have s12:Same H11 (upd H11 x (.lst [.ref wa,.bl (lampW rss ls w)])):=Same.upd_new hx
    have x12:(upd H11 x (.lst [.ref wa,.bl (lampW rss ls w)])) x=some (.lst [.ref wa,.bl (lampW rss ls w)]):=upd_same
    have nx:=l11.notOwn hx
    have xsa:x≠sa:=fun z=>by rw [z,J11.SP.top] at hx;cases hx
    generalize upd H11 x (.lst [.ref wa,.bl (lampW rss ls w)])=H12 at s12 x12 ⊢
    walk_at "w";refine ⟨sa,_,_,rfl,rfl,s12 _ _ J11.SP.top,small1000 (by rw [List.length_map,J11.SP.l1];omega),?_⟩
    have k13:∀ b u,b≠sa→H11 b=some u→upd H12 sa (.lst (sA.map V.ref++[.ref x])) b=some u:=fun b u hb e=>by rw [upd_ne hb];exact s12 _ _ e
    have x13:(upd H12 sa (.lst (sA.map V.ref++[.ref x]))) x=some (.lst [.ref wa,.bl (lampW rss ls w)]):=by rw [upd_ne xsa];exact x12
    have sa13:(upd H12 sa (.lst (sA.map V.ref++[.ref x]))) sa=some (.lst ((sA++[x]).map V.ref)):=by rw [upd_same,List.map_append];rfl
    generalize upd H12 sa (.lst (sA.map V.ref++[.ref x]))=H13 at k13 x13 sa13 ⊢
    have S13:LS t.C_Learner t.C_Book H13 lp d L1 kn heads tails:=S11.keep fun b hb u e=>k13 b u (fun z=>J11.out sa (by simp) (z ▸ hb)) e
    obtain ⟨rows13,f13,l13,_⟩:=S13.ex
    obtain ⟨dx13,fs13,ho13,hf13⟩:=l13.ob
    walk_at "w";refine ⟨lp,dx13,_,rfl,ho13,hf13.no _ (by decide +kernel),?_⟩
    walk_at "w";refine r_ixL (SqL.of sa13) (by rw [List.map_append];exact atI_last _ _) ?_
    walk_at "w";refine r_ixL (SqL.of x13) (atI_nat (j:=1) rfl) ?_
    walk_at "w";refine ⟨lp,d,L1,kn,heads,tails,_,rfl,S13,sm,by omega,hd1,hd6,fun w' hq'=>?_,(fun z=>by rw [hq] at z;cases z)⟩
    rw [hq] at hq'
    cases hq'
    refine ⟨fun hs Ih=>by have:=Ih.len;rw [List.length_append,List.length_singleton] at this;omega,fun H14 L14 S14 st14=>?_⟩
    walk_at "w";exact ⟨L14,_,_,_,sA++[x],qA++[wa],_,_,_,_,J11.add k13 sa13 x13 (k13 _ _ wsa hwa) nx nwa xsa wsa S14 st14 (by omega) J11.tw hwo hwl,rfl⟩
  ·walk_at "w";exact q _
end
theorem txt_mk {K:PySem.W.Frag} {h:Heap} {mg:Str→Option Value} (X:K.In h) (G:h.Ns mainGlobals mg) {tk_MOST_DOORS:Tok} {tk_MOST_ROOMS:Tok} {C_House:Addr} {C_Book:Addr} {C_Learner:Addr} {C_HouseError:Addr} {C_BadHouse:Addr} {C_BadWord:Addr} {C_SaidOtherwise:Addr} {C_NotAsked:Addr} {C_NotYet:Addr} {C_NotWrong:Addr} {f0:Addr} {oc0 kV0 dc0 pm0 cd0 ct0:Value} {od0 an0:Option Addr} {sl0:Array (Option Value)} {f1:Addr} {oc1 kV1 dc1 pm1 cd1 ct1:Value} {od1 an1:Option Addr} {sl1:Array (Option Value)} {f2:Addr} {oc2 kV2 dc2 pm2 cd2 ct2:Value} {od2 an2:Option Addr} {sl2:Array (Option Value)} {f3:Addr} {oc3 kV3 dc3 pm3 cd3 ct3:Value} {od3 an3:Option Addr} {sl3:Array (Option Value)} {f4:Addr} {oc4 kV4 dc4 pm4 cd4 ct4:Value} {od4 an4:Option Addr} {sl4:Array (Option Value)} {f5:Addr} {oc5 kV5 dc5 pm5 cd5 ct5:Value} {od5 an5:Option Addr} {sl5:Array (Option Value)} {f6:Addr} {oc6 kV6 dc6 pm6 cd6 ct6:Value} {od6 an6:Option Addr} {sl6:Array (Option Value)} {f7:Addr} {oc7 kV7 dc7 pm7 cd7 ct7:Value} {od7 an7:Option Addr} {sl7:Array (Option Value)} {f8:Addr} {oc8 kV8 dc8 pm8 cd8 ct8:Value} {od8 an8:Option Addr} {sl8:Array (Option Value)} {f9:Addr} {oc9 kV9 dc9 pm9 cd9 ct9:Value} {od9 an9:Option Addr} {sl9:Array (Option Value)} {f10:Addr} {oc10 kV10 dc10 pm10 cd10 ct10:Value} {od10 an10:Option Addr} {sl10:Array (Option Value)} {f11:Addr} {oc11 kV11 dc11 pm11 cd11 ct11:Value} {od11 an11:Option Addr} {sl11:Array (Option Value)} {f12:Addr} {oc12 kV12 dc12 pm12 cd12 ct12:Value} {od12 an12:Option Addr} {sl12:Array (Option Value)} {f13:Addr} {oc13 kV13 dc13 pm13 cd13 ct13:Value} {od13 an13:Option Addr} {sl13:Array (Option Value)} {f14:Addr} {oc14 kV14 dc14 pm14 cd14 ct14:Value} {od14 an14:Option Addr} {sl14:Array (Option Value)} {f15:Addr} {oc15 kV15 dc15 pm15 cd15 ct15:Value} {od15 an15:Option Addr} {sl15:Array (Option Value)} {f16:Addr} {oc16 kV16 dc16 pm16 cd16 ct16:Value} {od16 an16:Option Addr} {sl16:Array (Option Value)} {f17:Addr} {oc17 kV17 dc17 pm17 cd17 ct17:Value} {od17 an17:Option Addr} {sl17:Array (Option Value)} {f18:Addr} {oc18 kV18 dc18 pm18 cd18 ct18:Value} {od18 an18:Option Addr} {sl18:Array (Option Value)} {f19:Addr} {oc19 kV19 dc19 pm19 cd19 ct19:Value} {od19 an19:Option Addr} {sl19:Array (Option Value)} {f20:Addr} {oc20 kV20 dc20 pm20 cd20 ct20:Value} {od20 an20:Option Addr} {sl20:Array (Option Value)} {f21:Addr} {oc21 kV21 dc21 pm21 cd21 ct21:Value} {od21 an21:Option Addr} {sl21:Array (Option Value)} {f22:Addr} {oc22 kV22 dc22 pm22 cd22 ct22:Value} {od22 an22:Option Addr} {sl22:Array (Option Value)} {f23:Addr} {oc23 kV23 dc23 pm23 cd23 ct23:Value} {od23 an23:Option Addr} {sl23:Array (Option Value)} {f24:Addr} {oc24 kV24 dc24 pm24 cd24 ct24:Value} {od24 an24:Option Addr} {sl24:Array (Option Value)} {f25:Addr} {oc25 kV25 dc25 pm25 cd25 ct25:Value} {od25 an25:Option Addr} {sl25:Array (Option Value)} {f26:Addr} {oc26 kV26 dc26 pm26 cd26 ct26:Value} {od26 an26:Option Addr} {sl26:Array (Option Value)} {f27:Addr} {oc27 kV27 dc27 pm27 cd27 ct27:Value} {od27 an27:Option Addr} {sl27:Array (Option Value)} {f28:Addr} {oc28 kV28 dc28 pm28 cd28 ct28:Value} {od28 an28:Option Addr} {sl28:Array (Option Value)} {f29:Addr} {oc29 kV29 dc29 pm29 cd29 ct29:Value} {od29 an29:Option Addr} {sl29:Array (Option Value)} {f30:Addr} {oc30 kV30 dc30 pm30 cd30 ct30:Value} {od30 an30:Option Addr} {sl30:Array (Option Value)} {f31:Addr} {oc31 kV31 dc31 pm31 cd31 ct31:Value} {od31 an31:Option Addr} {sl31:Array (Option Value)} {f32:Addr} {oc32 kV32 dc32 pm32 cd32 ct32:Value} {od32 an32:Option Addr} {sl32:Array (Option Value)} {f33:Addr} {oc33 kV33 dc33 pm33 cd33 ct33:Value} {od33 an33:Option Addr} {sl33:Array (Option Value)} {f34:Addr} {oc34 kV34 dc34 pm34 cd34 ct34:Value} {od34 an34:Option Addr} {sl34:Array (Option Value)} {f35:Addr} {oc35 kV35 dc35 pm35 cd35 ct35:Value} {od35 an35:Option Addr} {sl35:Array (Option Value)} {f36:Addr} {oc36 kV36 dc36 pm36 cd36 ct36:Value} {od36 an36:Option Addr} {sl36:Array (Option Value)} {f37:Addr} {oc37 kV37 dc37 pm37 cd37 ct37:Value} {od37 an37:Option Addr} {sl37:Array (Option Value)}
    (z_len:PySem.W.nsIn K mainGlobals "len"=some none)
    (z_range:PySem.W.nsIn K mainGlobals "range"=some none)
    (z_isinstance:PySem.W.nsIn K mainGlobals "isinstance"=some none)
    (z_list:PySem.W.nsIn K mainGlobals "list"=some none)
    (z_enumerate:PySem.W.nsIn K mainGlobals "enumerate"=some none)
    (z_tuple:PySem.W.nsIn K mainGlobals "tuple"=some none)
    (z_ValueError:PySem.W.nsIn K mainGlobals "ValueError"=some none)
    (z_zip:PySem.W.nsIn K mainGlobals "zip"=some none)
    (c_MOST_DOORS:PySem.W.nsIn K mainGlobals "MOST_DOORS"=some (some (.int 6 tk_MOST_DOORS)))
    (c_MOST_ROOMS:PySem.W.nsIn K mainGlobals "MOST_ROOMS"=some (some (.int 400 tk_MOST_ROOMS)))
    (a_House:PySem.W.nsIn K mainGlobals "House"=some (some (.ref C_House)))
    (pg_House:PySem.W.plainGet K C_House Str.empty=true)
    (hd_House:PySem.W.hasDictIn K C_House=true)
    (po_House:PySem.W.plainOver K C_House=true)
    (sa_House:PySem.W.findIn K (.ref C_House) "__setattr__"=some (some (.builtin "object.__setattr__")))
    (mk_House:PySem.W.makesIn K C_House=true)
    (kc_House:PySem.W.keepIn K (.ref C_House)=true)
    (tc_House:PySem.W.findIn K (.ref C_House) "__class__"=some (some (.builtin "object.__class__")))
    (tm_House:PySem.W.mroIn K C_House (.type "object")=some true)
    (n_House_doors:PySem.W.findIn K (.ref C_House) "doors"=some none)
    (n_House_ways:PySem.W.findIn K (.ref C_House) "ways"=some none)
    (n_House_lamps:PySem.W.findIn K (.ref C_House) "lamps"=some none)
    (a_Book:PySem.W.nsIn K mainGlobals "Book"=some (some (.ref C_Book)))
    (pg_Book:PySem.W.plainGet K C_Book Str.empty=true)
    (hd_Book:PySem.W.hasDictIn K C_Book=true)
    (po_Book:PySem.W.plainOver K C_Book=true)
    (sa_Book:PySem.W.findIn K (.ref C_Book) "__setattr__"=some (some (.builtin "object.__setattr__")))
    (mk_Book:PySem.W.makesIn K C_Book=true)
    (kc_Book:PySem.W.keepIn K (.ref C_Book)=true)
    (tc_Book:PySem.W.findIn K (.ref C_Book) "__class__"=some (some (.builtin "object.__class__")))
    (tm_Book:PySem.W.mroIn K C_Book (.type "object")=some true)
    (n_Book_doors:PySem.W.findIn K (.ref C_Book) "doors"=some none)
    (n_Book_noted:PySem.W.findIn K (.ref C_Book) "noted"=some none)
    (a_Learner:PySem.W.nsIn K mainGlobals "Learner"=some (some (.ref C_Learner)))
    (pg_Learner:PySem.W.plainGet K C_Learner Str.empty=true)
    (hd_Learner:PySem.W.hasDictIn K C_Learner=true)
    (po_Learner:PySem.W.plainOver K C_Learner=true)
    (sa_Learner:PySem.W.findIn K (.ref C_Learner) "__setattr__"=some (some (.builtin "object.__setattr__")))
    (mk_Learner:PySem.W.makesIn K C_Learner=true)
    (kc_Learner:PySem.W.keepIn K (.ref C_Learner)=true)
    (tc_Learner:PySem.W.findIn K (.ref C_Learner) "__class__"=some (some (.builtin "object.__class__")))
    (tm_Learner:PySem.W.mroIn K C_Learner (.type "object")=some true)
    (n_Learner_book:PySem.W.findIn K (.ref C_Learner) "book"=some none)
    (n_Learner_doors:PySem.W.findIn K (.ref C_Learner) "doors"=some none)
    (n_Learner_heads:PySem.W.findIn K (.ref C_Learner) "heads"=some none)
    (n_Learner_tails:PySem.W.findIn K (.ref C_Learner) "tails"=some none)
    (n_Learner_lines:PySem.W.findIn K (.ref C_Learner) "lines"=some none)
    (n_Learner_rows:PySem.W.findIn K (.ref C_Learner) "rows"=some none)
    (n_Learner_filled:PySem.W.findIn K (.ref C_Learner) "filled"=some none)
    (a_HouseError:PySem.W.nsIn K mainGlobals "HouseError"=some (some (.ref C_HouseError)))
    (x_HouseError:PySem.W.excIn K C_HouseError bmV "ValueError.__new__"=true)
    (g1_HouseError:PySem.W.findIn K (.ref C_HouseError) "__getattribute__"=some (some (.builtin "BaseException.__getattribute__")))
    (g2_HouseError:PySem.W.findIn K (.ref C_HouseError) "__getattr__"=some none)
    (g3_HouseError:PySem.W.findIn K (.ref C_HouseError) "__class__"=some (some (.builtin "object.__class__")))
    (g4_HouseError:PySem.W.isClsIn K C_HouseError=true)
    (ty_HouseError:PySem.W.typeIn K (.ref C_HouseError)=some (.type "type"))
    (mv_HouseError:PySem.W.mroIn K C_HouseError (.type "ValueError")=some true)
    (ms_HouseError:PySem.W.mroIn K C_HouseError (.ref C_HouseError)=some true)
    (a_BadHouse:PySem.W.nsIn K mainGlobals "BadHouse"=some (some (.ref C_BadHouse)))
    (x_BadHouse:PySem.W.excIn K C_BadHouse bmV "ValueError.__new__"=true)
    (g1_BadHouse:PySem.W.findIn K (.ref C_BadHouse) "__getattribute__"=some (some (.builtin "BaseException.__getattribute__")))
    (g2_BadHouse:PySem.W.findIn K (.ref C_BadHouse) "__getattr__"=some none)
    (g3_BadHouse:PySem.W.findIn K (.ref C_BadHouse) "__class__"=some (some (.builtin "object.__class__")))
    (g4_BadHouse:PySem.W.isClsIn K C_BadHouse=true)
    (ty_BadHouse:PySem.W.typeIn K (.ref C_BadHouse)=some (.type "type"))
    (mv_BadHouse:PySem.W.mroIn K C_BadHouse (.type "ValueError")=some true)
    (ms_BadHouse:PySem.W.mroIn K C_BadHouse (.ref C_BadHouse)=some true)
    (a_BadWord:PySem.W.nsIn K mainGlobals "BadWord"=some (some (.ref C_BadWord)))
    (x_BadWord:PySem.W.excIn K C_BadWord bmV "ValueError.__new__"=true)
    (g1_BadWord:PySem.W.findIn K (.ref C_BadWord) "__getattribute__"=some (some (.builtin "BaseException.__getattribute__")))
    (g2_BadWord:PySem.W.findIn K (.ref C_BadWord) "__getattr__"=some none)
    (g3_BadWord:PySem.W.findIn K (.ref C_BadWord) "__class__"=some (some (.builtin "object.__class__")))
    (g4_BadWord:PySem.W.isClsIn K C_BadWord=true)
    (ty_BadWord:PySem.W.typeIn K (.ref C_BadWord)=some (.type "type"))
    (mv_BadWord:PySem.W.mroIn K C_BadWord (.type "ValueError")=some true)
    (ms_BadWord:PySem.W.mroIn K C_BadWord (.ref C_BadWord)=some true)
    (a_SaidOtherwise:PySem.W.nsIn K mainGlobals "SaidOtherwise"=some (some (.ref C_SaidOtherwise)))
    (x_SaidOtherwise:PySem.W.excIn K C_SaidOtherwise bmV "ValueError.__new__"=true)
    (g1_SaidOtherwise:PySem.W.findIn K (.ref C_SaidOtherwise) "__getattribute__"=some (some (.builtin "BaseException.__getattribute__")))
    (g2_SaidOtherwise:PySem.W.findIn K (.ref C_SaidOtherwise) "__getattr__"=some none)
    (g3_SaidOtherwise:PySem.W.findIn K (.ref C_SaidOtherwise) "__class__"=some (some (.builtin "object.__class__")))
    (g4_SaidOtherwise:PySem.W.isClsIn K C_SaidOtherwise=true)
    (ty_SaidOtherwise:PySem.W.typeIn K (.ref C_SaidOtherwise)=some (.type "type"))
    (mv_SaidOtherwise:PySem.W.mroIn K C_SaidOtherwise (.type "ValueError")=some true)
    (ms_SaidOtherwise:PySem.W.mroIn K C_SaidOtherwise (.ref C_SaidOtherwise)=some true)
    (a_NotAsked:PySem.W.nsIn K mainGlobals "NotAsked"=some (some (.ref C_NotAsked)))
    (x_NotAsked:PySem.W.excIn K C_NotAsked bmV "ValueError.__new__"=true)
    (g1_NotAsked:PySem.W.findIn K (.ref C_NotAsked) "__getattribute__"=some (some (.builtin "BaseException.__getattribute__")))
    (g2_NotAsked:PySem.W.findIn K (.ref C_NotAsked) "__getattr__"=some none)
    (g3_NotAsked:PySem.W.findIn K (.ref C_NotAsked) "__class__"=some (some (.builtin "object.__class__")))
    (g4_NotAsked:PySem.W.isClsIn K C_NotAsked=true)
    (ty_NotAsked:PySem.W.typeIn K (.ref C_NotAsked)=some (.type "type"))
    (mv_NotAsked:PySem.W.mroIn K C_NotAsked (.type "ValueError")=some true)
    (ms_NotAsked:PySem.W.mroIn K C_NotAsked (.ref C_NotAsked)=some true)
    (a_NotYet:PySem.W.nsIn K mainGlobals "NotYet"=some (some (.ref C_NotYet)))
    (x_NotYet:PySem.W.excIn K C_NotYet bmV "ValueError.__new__"=true)
    (g1_NotYet:PySem.W.findIn K (.ref C_NotYet) "__getattribute__"=some (some (.builtin "BaseException.__getattribute__")))
    (g2_NotYet:PySem.W.findIn K (.ref C_NotYet) "__getattr__"=some none)
    (g3_NotYet:PySem.W.findIn K (.ref C_NotYet) "__class__"=some (some (.builtin "object.__class__")))
    (g4_NotYet:PySem.W.isClsIn K C_NotYet=true)
    (ty_NotYet:PySem.W.typeIn K (.ref C_NotYet)=some (.type "type"))
    (mv_NotYet:PySem.W.mroIn K C_NotYet (.type "ValueError")=some true)
    (ms_NotYet:PySem.W.mroIn K C_NotYet (.ref C_NotYet)=some true)
    (a_NotWrong:PySem.W.nsIn K mainGlobals "NotWrong"=some (some (.ref C_NotWrong)))
    (x_NotWrong:PySem.W.excIn K C_NotWrong bmV "ValueError.__new__"=true)
    (g1_NotWrong:PySem.W.findIn K (.ref C_NotWrong) "__getattribute__"=some (some (.builtin "BaseException.__getattribute__")))
    (g2_NotWrong:PySem.W.findIn K (.ref C_NotWrong) "__getattr__"=some none)
    (g3_NotWrong:PySem.W.findIn K (.ref C_NotWrong) "__class__"=some (some (.builtin "object.__class__")))
    (g4_NotWrong:PySem.W.isClsIn K C_NotWrong=true)
    (ty_NotWrong:PySem.W.typeIn K (.ref C_NotWrong)=some (.type "type"))
    (mv_NotWrong:PySem.W.mroIn K C_NotWrong (.type "ValueError")=some true)
    (ms_NotWrong:PySem.W.mroIn K C_NotWrong (.ref C_NotWrong)=some true)
    (mb_HouseError:PySem.W.mroIn K C_HouseError (.type "BaseException")=some true)
    (mb_BadHouse:PySem.W.mroIn K C_BadHouse (.type "BaseException")=some true)
    (mb_BadWord:PySem.W.mroIn K C_BadWord (.type "BaseException")=some true)
    (mb_SaidOtherwise:PySem.W.mroIn K C_SaidOtherwise (.type "BaseException")=some true)
    (mb_NotAsked:PySem.W.mroIn K C_NotAsked (.type "BaseException")=some true)
    (mb_NotYet:PySem.W.mroIn K C_NotYet (.type "BaseException")=some true)
    (mb_NotWrong:PySem.W.mroIn K C_NotWrong (.type "BaseException")=some true)
    (mr_NotAsked_HouseError:PySem.W.mroIn K C_NotAsked (.ref C_HouseError)=some true)
    (mr_HouseError_NotAsked:PySem.W.mroIn K C_HouseError (.ref C_NotAsked)=some false)
    (mr_NotAsked_NotYet:PySem.W.mroIn K C_NotAsked (.ref C_NotYet)=some false)
    (mr_NotAsked_BadWord:PySem.W.mroIn K C_NotAsked (.ref C_BadWord)=some false)
    (mr_NotAsked_SaidOtherwise:PySem.W.mroIn K C_NotAsked (.ref C_SaidOtherwise)=some false)
    (mr_NotAsked_NotWrong:PySem.W.mroIn K C_NotAsked (.ref C_NotWrong)=some false)
    (mr_NotAsked_BadHouse:PySem.W.mroIn K C_NotAsked (.ref C_BadHouse)=some false)
    (mr_NotYet_HouseError:PySem.W.mroIn K C_NotYet (.ref C_HouseError)=some true)
    (mr_HouseError_NotYet:PySem.W.mroIn K C_HouseError (.ref C_NotYet)=some false)
    (mr_NotYet_NotAsked:PySem.W.mroIn K C_NotYet (.ref C_NotAsked)=some false)
    (mr_NotYet_BadWord:PySem.W.mroIn K C_NotYet (.ref C_BadWord)=some false)
    (mr_NotYet_SaidOtherwise:PySem.W.mroIn K C_NotYet (.ref C_SaidOtherwise)=some false)
    (mr_NotYet_NotWrong:PySem.W.mroIn K C_NotYet (.ref C_NotWrong)=some false)
    (mr_NotYet_BadHouse:PySem.W.mroIn K C_NotYet (.ref C_BadHouse)=some false)
    (mr_BadWord_HouseError:PySem.W.mroIn K C_BadWord (.ref C_HouseError)=some true)
    (mr_HouseError_BadWord:PySem.W.mroIn K C_HouseError (.ref C_BadWord)=some false)
    (mr_BadWord_NotAsked:PySem.W.mroIn K C_BadWord (.ref C_NotAsked)=some false)
    (mr_BadWord_NotYet:PySem.W.mroIn K C_BadWord (.ref C_NotYet)=some false)
    (mr_BadWord_SaidOtherwise:PySem.W.mroIn K C_BadWord (.ref C_SaidOtherwise)=some false)
    (mr_BadWord_NotWrong:PySem.W.mroIn K C_BadWord (.ref C_NotWrong)=some false)
    (mr_BadWord_BadHouse:PySem.W.mroIn K C_BadWord (.ref C_BadHouse)=some false)
    (mr_SaidOtherwise_HouseError:PySem.W.mroIn K C_SaidOtherwise (.ref C_HouseError)=some true)
    (mr_HouseError_SaidOtherwise:PySem.W.mroIn K C_HouseError (.ref C_SaidOtherwise)=some false)
    (mr_SaidOtherwise_NotAsked:PySem.W.mroIn K C_SaidOtherwise (.ref C_NotAsked)=some false)
    (mr_SaidOtherwise_NotYet:PySem.W.mroIn K C_SaidOtherwise (.ref C_NotYet)=some false)
    (mr_SaidOtherwise_BadWord:PySem.W.mroIn K C_SaidOtherwise (.ref C_BadWord)=some false)
    (mr_SaidOtherwise_NotWrong:PySem.W.mroIn K C_SaidOtherwise (.ref C_NotWrong)=some false)
    (mr_SaidOtherwise_BadHouse:PySem.W.mroIn K C_SaidOtherwise (.ref C_BadHouse)=some false)
    (mr_NotWrong_HouseError:PySem.W.mroIn K C_NotWrong (.ref C_HouseError)=some true)
    (mr_HouseError_NotWrong:PySem.W.mroIn K C_HouseError (.ref C_NotWrong)=some false)
    (mr_NotWrong_NotAsked:PySem.W.mroIn K C_NotWrong (.ref C_NotAsked)=some false)
    (mr_NotWrong_NotYet:PySem.W.mroIn K C_NotWrong (.ref C_NotYet)=some false)
    (mr_NotWrong_BadWord:PySem.W.mroIn K C_NotWrong (.ref C_BadWord)=some false)
    (mr_NotWrong_SaidOtherwise:PySem.W.mroIn K C_NotWrong (.ref C_SaidOtherwise)=some false)
    (mr_NotWrong_BadHouse:PySem.W.mroIn K C_NotWrong (.ref C_BadHouse)=some false)
    (mr_BadHouse_HouseError:PySem.W.mroIn K C_BadHouse (.ref C_HouseError)=some true)
    (mr_HouseError_BadHouse:PySem.W.mroIn K C_HouseError (.ref C_BadHouse)=some false)
    (mr_BadHouse_NotAsked:PySem.W.mroIn K C_BadHouse (.ref C_NotAsked)=some false)
    (mr_BadHouse_NotYet:PySem.W.mroIn K C_BadHouse (.ref C_NotYet)=some false)
    (mr_BadHouse_BadWord:PySem.W.mroIn K C_BadHouse (.ref C_BadWord)=some false)
    (mr_BadHouse_SaidOtherwise:PySem.W.mroIn K C_BadHouse (.ref C_SaidOtherwise)=some false)
    (mr_BadHouse_NotWrong:PySem.W.mroIn K C_BadHouse (.ref C_NotWrong)=some false)
    (tg:PySem.W.specialIn K (.builtin "object.__class__") "__get__"=some (some (.builtin "getset_descriptor.__get__")))
    (tt:PySem.W.takesIn K (.builtin "object.__class__")=some true)
    (a0:PySem.W.nsIn K mainGlobals "check_doors"=some (some (.ref f0)))
    (l0:K.lookup f0=some ⟨oc0,od0,.func (PySem.W.fnOf "check_doors" "check_doors" (defArgs s_check_doors) (defBody s_check_doors) (defScope s_check_doors) .none kV0 dc0 pm0 an0 cd0 ct0),sl0⟩)
    (c0:PySem.W.codeIn K cd0 "check_doors"=true)
    (k0:PySem.W.keepIn K (.ref f0)=true)
    (a1:PySem.W.nsIn K mainGlobals "check_house"=some (some (.ref f1)))
    (l1:K.lookup f1=some ⟨oc1,od1,.func (PySem.W.fnOf "check_house" "check_house" (defArgs s_check_house) (defBody s_check_house) (defScope s_check_house) .none kV1 dc1 pm1 an1 cd1 ct1),sl1⟩)
    (c1:PySem.W.codeIn K cd1 "check_house"=true)
    (k1:PySem.W.keepIn K (.ref f1)=true)
    (a2:PySem.W.nsIn K mainGlobals "check_word"=some (some (.ref f2)))
    (l2:K.lookup f2=some ⟨oc2,od2,.func (PySem.W.fnOf "check_word" "check_word" (defArgs s_check_word) (defBody s_check_word) (defScope s_check_word) .none kV2 dc2 pm2 an2 cd2 ct2),sl2⟩)
    (c2:PySem.W.codeIn K cd2 "check_word"=true)
    (k2:PySem.W.keepIn K (.ref f2)=true)
    (a3:PySem.W.findIn K (.ref C_House) "__init__"=some (some (.ref f3)))
    (i3:PySem.W.isFn K (.ref f3)=true)
    (l3:K.lookup f3=some ⟨oc3,od3,.func (PySem.W.fnOf "__init__" "House.__init__" (defArgs s_House_init) (defBody s_House_init) (defScope s_House_init) .none kV3 dc3 pm3 an3 cd3 ct3),sl3⟩)
    (c3:PySem.W.codeIn K cd3 "House.__init__"=true)
    (k3:PySem.W.keepIn K (.ref f3)=true)
    (a4:PySem.W.findIn K (.ref C_House) "rooms"=some (some (.ref f4)))
    (i4:PySem.W.isFn K (.ref f4)=true)
    (l4:K.lookup f4=some ⟨oc4,od4,.func (PySem.W.fnOf "rooms" "House.rooms" (defArgs s_House_rooms) (defBody s_House_rooms) (defScope s_House_rooms) .none kV4 dc4 pm4 an4 cd4 ct4),sl4⟩)
    (c4:PySem.W.codeIn K cd4 "House.rooms"=true)
    (k4:PySem.W.keepIn K (.ref f4)=true)
    (a5:PySem.W.findIn K (.ref C_House) "trail"=some (some (.ref f5)))
    (i5:PySem.W.isFn K (.ref f5)=true)
    (l5:K.lookup f5=some ⟨oc5,od5,.func (PySem.W.fnOf "trail" "House.trail" (defArgs s_House_trail) (defBody s_House_trail) (defScope s_House_trail) .none kV5 dc5 pm5 an5 cd5 ct5),sl5⟩)
    (c5:PySem.W.codeIn K cd5 "House.trail"=true)
    (k5:PySem.W.keepIn K (.ref f5)=true)
    (a6:PySem.W.findIn K (.ref C_House) "room_of"=some (some (.ref f6)))
    (i6:PySem.W.isFn K (.ref f6)=true)
    (l6:K.lookup f6=some ⟨oc6,od6,.func (PySem.W.fnOf "room_of" "House.room_of" (defArgs s_House_room_of) (defBody s_House_room_of) (defScope s_House_room_of) .none kV6 dc6 pm6 an6 cd6 ct6),sl6⟩)
    (c6:PySem.W.codeIn K cd6 "House.room_of"=true)
    (k6:PySem.W.keepIn K (.ref f6)=true)
    (a7:PySem.W.findIn K (.ref C_House) "says"=some (some (.ref f7)))
    (i7:PySem.W.isFn K (.ref f7)=true)
    (l7:K.lookup f7=some ⟨oc7,od7,.func (PySem.W.fnOf "says" "House.says" (defArgs s_House_says) (defBody s_House_says) (defScope s_House_says) .none kV7 dc7 pm7 an7 cd7 ct7),sl7⟩)
    (c7:PySem.W.codeIn K cd7 "House.says"=true)
    (k7:PySem.W.keepIn K (.ref f7)=true)
    (a8:PySem.W.findIn K (.ref C_Book) "__init__"=some (some (.ref f8)))
    (i8:PySem.W.isFn K (.ref f8)=true)
    (l8:K.lookup f8=some ⟨oc8,od8,.func (PySem.W.fnOf "__init__" "Book.__init__" (defArgs s_Book_init) (defBody s_Book_init) (defScope s_Book_init) .none kV8 dc8 pm8 an8 cd8 ct8),sl8⟩)
    (c8:PySem.W.codeIn K cd8 "Book.__init__"=true)
    (k8:PySem.W.keepIn K (.ref f8)=true)
    (a9:PySem.W.findIn K (.ref C_Book) "said"=some (some (.ref f9)))
    (i9:PySem.W.isFn K (.ref f9)=true)
    (l9:K.lookup f9=some ⟨oc9,od9,.func (PySem.W.fnOf "said" "Book.said" (defArgs s_Book_said) (defBody s_Book_said) (defScope s_Book_said) .none kV9 dc9 pm9 an9 cd9 ct9),sl9⟩)
    (c9:PySem.W.codeIn K cd9 "Book.said"=true)
    (k9:PySem.W.keepIn K (.ref f9)=true)
    (a10:PySem.W.findIn K (.ref C_Book) "check_note"=some (some (.ref f10)))
    (i10:PySem.W.isFn K (.ref f10)=true)
    (l10:K.lookup f10=some ⟨oc10,od10,.func (PySem.W.fnOf "check_note" "Book.check_note" (defArgs s_Book_check_note) (defBody s_Book_check_note) (defScope s_Book_check_note) .none kV10 dc10 pm10 an10 cd10 ct10),sl10⟩)
    (c10:PySem.W.codeIn K cd10 "Book.check_note"=true)
    (k10:PySem.W.keepIn K (.ref f10)=true)
    (a11:PySem.W.findIn K (.ref C_Book) "note"=some (some (.ref f11)))
    (i11:PySem.W.isFn K (.ref f11)=true)
    (l11:K.lookup f11=some ⟨oc11,od11,.func (PySem.W.fnOf "note" "Book.note" (defArgs s_Book_note) (defBody s_Book_note) (defScope s_Book_note) .none kV11 dc11 pm11 an11 cd11 ct11),sl11⟩)
    (c11:PySem.W.codeIn K cd11 "Book.note"=true)
    (k11:PySem.W.keepIn K (.ref f11)=true)
    (a12:PySem.W.findIn K (.ref C_Book) "all_said"=some (some (.ref f12)))
    (i12:PySem.W.isFn K (.ref f12)=true)
    (l12:K.lookup f12=some ⟨oc12,od12,.func (PySem.W.fnOf "all_said" "Book.all_said" (defArgs s_Book_all_said) (defBody s_Book_all_said) (defScope s_Book_all_said) .none kV12 dc12 pm12 an12 cd12 ct12),sl12⟩)
    (c12:PySem.W.codeIn K cd12 "Book.all_said"=true)
    (k12:PySem.W.keepIn K (.ref f12)=true)
    (a13:PySem.W.findIn K (.ref C_Learner) "add_head"=some (some (.ref f13)))
    (i13:PySem.W.isFn K (.ref f13)=true)
    (l13:K.lookup f13=some ⟨oc13,od13,.func (PySem.W.fnOf "add_head" "Learner.add_head" (defArgs s_Learner_add_head) (defBody s_Learner_add_head) (defScope s_Learner_add_head) .none kV13 dc13 pm13 an13 cd13 ct13),sl13⟩)
    (c13:PySem.W.codeIn K cd13 "Learner.add_head"=true)
    (k13:PySem.W.keepIn K (.ref f13)=true)
    (a14:PySem.W.findIn K (.ref C_Learner) "__init__"=some (some (.ref f14)))
    (i14:PySem.W.isFn K (.ref f14)=true)
    (l14:K.lookup f14=some ⟨oc14,od14,.func (PySem.W.fnOf "__init__" "Learner.__init__" (defArgs s_Learner_init) (defBody s_Learner_init) (defScope s_Learner_init) .none kV14 dc14 pm14 an14 cd14 ct14),sl14⟩)
    (c14:PySem.W.codeIn K cd14 "Learner.__init__"=true)
    (k14:PySem.W.keepIn K (.ref f14)=true)
    (a15:PySem.W.findIn K (.ref C_Learner) "gap"=some (some (.ref f15)))
    (i15:PySem.W.isFn K (.ref f15)=true)
    (l15:K.lookup f15=some ⟨oc15,od15,.func (PySem.W.fnOf "gap" "Learner.gap" (defArgs s_Learner_gap) (defBody s_Learner_gap) (defScope s_Learner_gap) .none kV15 dc15 pm15 an15 cd15 ct15),sl15⟩)
    (c15:PySem.W.codeIn K cd15 "Learner.gap"=true)
    (k15:PySem.W.keepIn K (.ref f15)=true)
    (a16:PySem.W.findIn K (.ref C_Learner) "question"=some (some (.ref f16)))
    (i16:PySem.W.isFn K (.ref f16)=true)
    (l16:K.lookup f16=some ⟨oc16,od16,.func (PySem.W.fnOf "question" "Learner.question" (defArgs s_Learner_question) (defBody s_Learner_question) (defScope s_Learner_question) .none kV16 dc16 pm16 an16 cd16 ct16),sl16⟩)
    (c16:PySem.W.codeIn K cd16 "Learner.question"=true)
    (k16:PySem.W.keepIn K (.ref f16)=true)
    (a17:PySem.W.findIn K (.ref C_Learner) "heads_by_row"=some (some (.ref f17)))
    (i17:PySem.W.isFn K (.ref f17)=true)
    (l17:K.lookup f17=some ⟨oc17,od17,.func (PySem.W.fnOf "heads_by_row" "Learner.heads_by_row" (defArgs s_Learner_heads_by_row) (defBody s_Learner_heads_by_row) (defScope s_Learner_heads_by_row) .none kV17 dc17 pm17 an17 cd17 ct17),sl17⟩)
    (c17:PySem.W.codeIn K cd17 "Learner.heads_by_row"=true)
    (k17:PySem.W.keepIn K (.ref f17)=true)
    (a18:PySem.W.findIn K (.ref C_Learner) "unlike_edge"=some (some (.ref f18)))
    (i18:PySem.W.isFn K (.ref f18)=true)
    (l18:K.lookup f18=some ⟨oc18,od18,.func (PySem.W.fnOf "unlike_edge" "Learner.unlike_edge" (defArgs s_Learner_unlike_edge) (defBody s_Learner_unlike_edge) (defScope s_Learner_unlike_edge) .none kV18 dc18 pm18 an18 cd18 ct18),sl18⟩)
    (c18:PySem.W.codeIn K cd18 "Learner.unlike_edge"=true)
    (k18:PySem.W.keepIn K (.ref f18)=true)
    (a19:PySem.W.findIn K (.ref C_Learner) "add_unlike_edges"=some (some (.ref f19)))
    (i19:PySem.W.isFn K (.ref f19)=true)
    (l19:K.lookup f19=some ⟨oc19,od19,.func (PySem.W.fnOf "add_unlike_edges" "Learner.add_unlike_edges" (defArgs s_Learner_add_unlike_edges) (defBody s_Learner_add_unlike_edges) (defScope s_Learner_add_unlike_edges) .none kV19 dc19 pm19 an19 cd19 ct19),sl19⟩)
    (c19:PySem.W.codeIn K cd19 "Learner.add_unlike_edges"=true)
    (k19:PySem.W.keepIn K (.ref f19)=true)
    (a20:PySem.W.findIn K (.ref C_Learner) "answer"=some (some (.ref f20)))
    (i20:PySem.W.isFn K (.ref f20)=true)
    (l20:K.lookup f20=some ⟨oc20,od20,.func (PySem.W.fnOf "answer" "Learner.answer" (defArgs s_Learner_answer) (defBody s_Learner_answer) (defScope s_Learner_answer) .none kV20 dc20 pm20 an20 cd20 ct20),sl20⟩)
    (c20:PySem.W.codeIn K cd20 "Learner.answer"=true)
    (k20:PySem.W.keepIn K (.ref f20)=true)
    (a21:PySem.W.findIn K (.ref C_Learner) "guess"=some (some (.ref f21)))
    (i21:PySem.W.isFn K (.ref f21)=true)
    (l21:K.lookup f21=some ⟨oc21,od21,.func (PySem.W.fnOf "guess" "Learner.guess" (defArgs s_Learner_guess) (defBody s_Learner_guess) (defScope s_Learner_guess) .none kV21 dc21 pm21 an21 cd21 ct21),sl21⟩)
    (c21:PySem.W.codeIn K cd21 "Learner.guess"=true)
    (k21:PySem.W.keepIn K (.ref f21)=true)
    (a22:PySem.W.findIn K (.ref C_Learner) "add_tails"=some (some (.ref f22)))
    (i22:PySem.W.isFn K (.ref f22)=true)
    (l22:K.lookup f22=some ⟨oc22,od22,.func (PySem.W.fnOf "add_tails" "Learner.add_tails" (defArgs s_Learner_add_tails) (defBody s_Learner_add_tails) (defScope s_Learner_add_tails) .none kV22 dc22 pm22 an22 cd22 ct22),sl22⟩)
    (c22:PySem.W.codeIn K cd22 "Learner.add_tails"=true)
    (k22:PySem.W.keepIn K (.ref f22)=true)
    (a23:PySem.W.findIn K (.ref C_Learner) "wrong"=some (some (.ref f23)))
    (i23:PySem.W.isFn K (.ref f23)=true)
    (l23:K.lookup f23=some ⟨oc23,od23,.func (PySem.W.fnOf "wrong" "Learner.wrong" (defArgs s_Learner_wrong) (defBody s_Learner_wrong) (defScope s_Learner_wrong) .none kV23 dc23 pm23 an23 cd23 ct23),sl23⟩)
    (c23:PySem.W.codeIn K cd23 "Learner.wrong"=true)
    (k23:PySem.W.keepIn K (.ref f23)=true)
    (a24:PySem.W.nsIn K mainGlobals "_law_cell_at"=some (some (.ref f24)))
    (l24:K.lookup f24=some ⟨oc24,od24,.func (PySem.W.fnOf "_law_cell_at" "_law_cell_at" (defArgs s_l_cell_at) (defBody s_l_cell_at) (defScope s_l_cell_at) .none kV24 dc24 pm24 an24 cd24 ct24),sl24⟩)
    (c24:PySem.W.codeIn K cd24 "_law_cell_at"=true)
    (k24:PySem.W.keepIn K (.ref f24)=true)
    (a25:PySem.W.nsIn K mainGlobals "_law_draw"=some (some (.ref f25)))
    (l25:K.lookup f25=some ⟨oc25,od25,.func (PySem.W.fnOf "_law_draw" "_law_draw" (defArgs s_l_draw) (defBody s_l_draw) (defScope s_l_draw) .none kV25 dc25 pm25 an25 cd25 ct25),sl25⟩)
    (c25:PySem.W.codeIn K cd25 "_law_draw"=true)
    (k25:PySem.W.keepIn K (.ref f25)=true)
    (a26:PySem.W.nsIn K mainGlobals "_law_ways_by"=some (some (.ref f26)))
    (l26:K.lookup f26=some ⟨oc26,od26,.func (PySem.W.fnOf "_law_ways_by" "_law_ways_by" (defArgs s_l_ways_by) (defBody s_l_ways_by) (defScope s_l_ways_by) .none kV26 dc26 pm26 an26 cd26 ct26),sl26⟩)
    (c26:PySem.W.codeIn K cd26 "_law_ways_by"=true)
    (k26:PySem.W.keepIn K (.ref f26)=true)
    (a27:PySem.W.nsIn K mainGlobals "_law_lamps_by"=some (some (.ref f27)))
    (l27:K.lookup f27=some ⟨oc27,od27,.func (PySem.W.fnOf "_law_lamps_by" "_law_lamps_by" (defArgs s_l_lamps_by) (defBody s_l_lamps_by) (defScope s_l_lamps_by) .none kV27 dc27 pm27 an27 cd27 ct27),sl27⟩)
    (c27:PySem.W.codeIn K cd27 "_law_lamps_by"=true)
    (k27:PySem.W.keepIn K (.ref f27)=true)
    (a28:PySem.W.nsIn K mainGlobals "_law_word_by"=some (some (.ref f28)))
    (l28:K.lookup f28=some ⟨oc28,od28,.func (PySem.W.fnOf "_law_word_by" "_law_word_by" (defArgs s_l_word_by) (defBody s_l_word_by) (defScope s_l_word_by) .none kV28 dc28 pm28 an28 cd28 ct28),sl28⟩)
    (c28:PySem.W.codeIn K cd28 "_law_word_by"=true)
    (k28:PySem.W.keepIn K (.ref f28)=true)
    (a29:PySem.W.nsIn K mainGlobals "_law_walk"=some (some (.ref f29)))
    (l29:K.lookup f29=some ⟨oc29,od29,.func (PySem.W.fnOf "_law_walk" "_law_walk" (defArgs s_l_walk) (defBody s_l_walk) (defScope s_l_walk) .none kV29 dc29 pm29 an29 cd29 ct29),sl29⟩)
    (c29:PySem.W.codeIn K cd29 "_law_walk"=true)
    (k29:PySem.W.keepIn K (.ref f29)=true)
    (a30:PySem.W.nsIn K mainGlobals "_law_part"=some (some (.ref f30)))
    (l30:K.lookup f30=some ⟨oc30,od30,.func (PySem.W.fnOf "_law_part" "_law_part" (defArgs s_l_part) (defBody s_l_part) (defScope s_l_part) .none kV30 dc30 pm30 an30 cd30 ct30),sl30⟩)
    (c30:PySem.W.codeIn K cd30 "_law_part"=true)
    (k30:PySem.W.keepIn K (.ref f30)=true)
    (a31:PySem.W.nsIn K mainGlobals "_law_stands_under"=some (some (.ref f31)))
    (l31:K.lookup f31=some ⟨oc31,od31,.func (PySem.W.fnOf "_law_stands_under" "_law_stands_under" (defArgs s_l_stands_under) (defBody s_l_stands_under) (defScope s_l_stands_under) .none kV31 dc31 pm31 an31 cd31 ct31),sl31⟩)
    (c31:PySem.W.codeIn K cd31 "_law_stands_under"=true)
    (k31:PySem.W.keepIn K (.ref f31)=true)
    (a32:PySem.W.nsIn K mainGlobals "_law_do"=some (some (.ref f32)))
    (l32:K.lookup f32=some ⟨oc32,od32,.func (PySem.W.fnOf "_law_do" "_law_do" (defArgs s_l_do) (defBody s_l_do) (defScope s_l_do) .none kV32 dc32 pm32 an32 cd32 ct32),sl32⟩)
    (c32:PySem.W.codeIn K cd32 "_law_do"=true)
    (k32:PySem.W.keepIn K (.ref f32)=true)
    (a33:PySem.W.nsIn K mainGlobals "_law_name"=some (some (.ref f33)))
    (l33:K.lookup f33=some ⟨oc33,od33,.func (PySem.W.fnOf "_law_name" "_law_name" (defArgs s_l_name) (defBody s_l_name) (defScope s_l_name) .none kV33 dc33 pm33 an33 cd33 ct33),sl33⟩)
    (c33:PySem.W.codeIn K cd33 "_law_name"=true)
    (k33:PySem.W.keepIn K (.ref f33)=true)
    (a34:PySem.W.nsIn K mainGlobals "_law_seen"=some (some (.ref f34)))
    (l34:K.lookup f34=some ⟨oc34,od34,.func (PySem.W.fnOf "_law_seen" "_law_seen" (defArgs s_l_seen) (defBody s_l_seen) (defScope s_l_seen) .none kV34 dc34 pm34 an34 cd34 ct34),sl34⟩)
    (c34:PySem.W.codeIn K cd34 "_law_seen"=true)
    (k34:PySem.W.keepIn K (.ref f34)=true)
    (a35:PySem.W.nsIn K mainGlobals "_law_refusals_hold"=some (some (.ref f35)))
    (l35:K.lookup f35=some ⟨oc35,od35,.func (PySem.W.fnOf "_law_refusals_hold" "_law_refusals_hold" (defArgs s_l_refusals_hold) (defBody s_l_refusals_hold) (defScope s_l_refusals_hold) .none kV35 dc35 pm35 an35 cd35 ct35),sl35⟩)
    (c35:PySem.W.codeIn K cd35 "_law_refusals_hold"=true)
    (k35:PySem.W.keepIn K (.ref f35)=true)
    (a36:PySem.W.nsIn K mainGlobals "_law_rows"=some (some (.ref f36)))
    (l36:K.lookup f36=some ⟨oc36,od36,.func (PySem.W.fnOf "_law_rows" "_law_rows" (defArgs s_l_rows) (defBody s_l_rows) (defScope s_l_rows) .none kV36 dc36 pm36 an36 cd36 ct36),sl36⟩)
    (c36:PySem.W.codeIn K cd36 "_law_rows"=true)
    (k36:PySem.W.keepIn K (.ref f36)=true)
    (a37:PySem.W.nsIn K mainGlobals "law"=some (some (.ref f37)))
    (l37:K.lookup f37=some ⟨oc37,od37,.func (PySem.W.fnOf "law" "law" (defArgs s_law) (defBody s_law) (defScope s_law) .none kV37 dc37 pm37 an37 cd37 ct37),sl37⟩)
    (c37:PySem.W.codeIn K cd37 "law"=true)
    (k37:PySem.W.keepIn K (.ref f37)=true)
   :∃ t,Txt K mg t :=
  ⟨{ C_House:=C_House,C_Book:=C_Book,C_Learner:=C_Learner,C_HouseError:=C_HouseError,C_BadHouse:=C_BadHouse,C_BadWord:=C_BadWord,C_SaidOtherwise:=C_SaidOtherwise,C_NotAsked:=C_NotAsked,C_NotYet:=C_NotYet,C_NotWrong:=C_NotWrong,f_check_doors:=f0,fd_check_doors:=PySem.W.fnOf "check_doors" "check_doors" (defArgs s_check_doors) (defBody s_check_doors) (defScope s_check_doors) .none kV0 dc0 pm0 an0 cd0 ct0,f_check_house:=f1,fd_check_house:=PySem.W.fnOf "check_house" "check_house" (defArgs s_check_house) (defBody s_check_house) (defScope s_check_house) .none kV1 dc1 pm1 an1 cd1 ct1,f_check_word:=f2,fd_check_word:=PySem.W.fnOf "check_word" "check_word" (defArgs s_check_word) (defBody s_check_word) (defScope s_check_word) .none kV2 dc2 pm2 an2 cd2 ct2,f_House_init:=f3,fd_House_init:=PySem.W.fnOf "__init__" "House.__init__" (defArgs s_House_init) (defBody s_House_init) (defScope s_House_init) .none kV3 dc3 pm3 an3 cd3 ct3,f_House_rooms:=f4,fd_House_rooms:=PySem.W.fnOf "rooms" "House.rooms" (defArgs s_House_rooms) (defBody s_House_rooms) (defScope s_House_rooms) .none kV4 dc4 pm4 an4 cd4 ct4,f_House_trail:=f5,fd_House_trail:=PySem.W.fnOf "trail" "House.trail" (defArgs s_House_trail) (defBody s_House_trail) (defScope s_House_trail) .none kV5 dc5 pm5 an5 cd5 ct5,f_House_room_of:=f6,fd_House_room_of:=PySem.W.fnOf "room_of" "House.room_of" (defArgs s_House_room_of) (defBody s_House_room_of) (defScope s_House_room_of) .none kV6 dc6 pm6 an6 cd6 ct6,f_House_says:=f7,fd_House_says:=PySem.W.fnOf "says" "House.says" (defArgs s_House_says) (defBody s_House_says) (defScope s_House_says) .none kV7 dc7 pm7 an7 cd7 ct7,f_Book_init:=f8,fd_Book_init:=PySem.W.fnOf "__init__" "Book.__init__" (defArgs s_Book_init) (defBody s_Book_init) (defScope s_Book_init) .none kV8 dc8 pm8 an8 cd8 ct8,f_Book_said:=f9,fd_Book_said:=PySem.W.fnOf "said" "Book.said" (defArgs s_Book_said) (defBody s_Book_said) (defScope s_Book_said) .none kV9 dc9 pm9 an9 cd9 ct9,f_Book_check_note:=f10,fd_Book_check_note:=PySem.W.fnOf "check_note" "Book.check_note" (defArgs s_Book_check_note) (defBody s_Book_check_note) (defScope s_Book_check_note) .none kV10 dc10 pm10 an10 cd10 ct10,f_Book_note:=f11,fd_Book_note:=PySem.W.fnOf "note" "Book.note" (defArgs s_Book_note) (defBody s_Book_note) (defScope s_Book_note) .none kV11 dc11 pm11 an11 cd11 ct11,f_Book_all_said:=f12,fd_Book_all_said:=PySem.W.fnOf "all_said" "Book.all_said" (defArgs s_Book_all_said) (defBody s_Book_all_said) (defScope s_Book_all_said) .none kV12 dc12 pm12 an12 cd12 ct12,f_Learner_add_head:=f13,fd_Learner_add_head:=PySem.W.fnOf "add_head" "Learner.add_head" (defArgs s_Learner_add_head) (defBody s_Learner_add_head) (defScope s_Learner_add_head) .none kV13 dc13 pm13 an13 cd13 ct13,f_Learner_init:=f14,fd_Learner_init:=PySem.W.fnOf "__init__" "Learner.__init__" (defArgs s_Learner_init) (defBody s_Learner_init) (defScope s_Learner_init) .none kV14 dc14 pm14 an14 cd14 ct14,f_Learner_gap:=f15,fd_Learner_gap:=PySem.W.fnOf "gap" "Learner.gap" (defArgs s_Learner_gap) (defBody s_Learner_gap) (defScope s_Learner_gap) .none kV15 dc15 pm15 an15 cd15 ct15,f_Learner_question:=f16,fd_Learner_question:=PySem.W.fnOf "question" "Learner.question" (defArgs s_Learner_question) (defBody s_Learner_question) (defScope s_Learner_question) .none kV16 dc16 pm16 an16 cd16 ct16,f_Learner_heads_by_row:=f17,fd_Learner_heads_by_row:=PySem.W.fnOf "heads_by_row" "Learner.heads_by_row" (defArgs s_Learner_heads_by_row) (defBody s_Learner_heads_by_row) (defScope s_Learner_heads_by_row) .none kV17 dc17 pm17 an17 cd17 ct17,f_Learner_unlike_edge:=f18,fd_Learner_unlike_edge:=PySem.W.fnOf "unlike_edge" "Learner.unlike_edge" (defArgs s_Learner_unlike_edge) (defBody s_Learner_unlike_edge) (defScope s_Learner_unlike_edge) .none kV18 dc18 pm18 an18 cd18 ct18,f_Learner_add_unlike_edges:=f19,fd_Learner_add_unlike_edges:=PySem.W.fnOf "add_unlike_edges" "Learner.add_unlike_edges" (defArgs s_Learner_add_unlike_edges) (defBody s_Learner_add_unlike_edges) (defScope s_Learner_add_unlike_edges) .none kV19 dc19 pm19 an19 cd19 ct19,f_Learner_answer:=f20,fd_Learner_answer:=PySem.W.fnOf "answer" "Learner.answer" (defArgs s_Learner_answer) (defBody s_Learner_answer) (defScope s_Learner_answer) .none kV20 dc20 pm20 an20 cd20 ct20,f_Learner_guess:=f21,fd_Learner_guess:=PySem.W.fnOf "guess" "Learner.guess" (defArgs s_Learner_guess) (defBody s_Learner_guess) (defScope s_Learner_guess) .none kV21 dc21 pm21 an21 cd21 ct21,f_Learner_add_tails:=f22,fd_Learner_add_tails:=PySem.W.fnOf "add_tails" "Learner.add_tails" (defArgs s_Learner_add_tails) (defBody s_Learner_add_tails) (defScope s_Learner_add_tails) .none kV22 dc22 pm22 an22 cd22 ct22,f_Learner_wrong:=f23,fd_Learner_wrong:=PySem.W.fnOf "wrong" "Learner.wrong" (defArgs s_Learner_wrong) (defBody s_Learner_wrong) (defScope s_Learner_wrong) .none kV23 dc23 pm23 an23 cd23 ct23,f_l_cell_at:=f24,fd_l_cell_at:=PySem.W.fnOf "_law_cell_at" "_law_cell_at" (defArgs s_l_cell_at) (defBody s_l_cell_at) (defScope s_l_cell_at) .none kV24 dc24 pm24 an24 cd24 ct24,f_l_draw:=f25,fd_l_draw:=PySem.W.fnOf "_law_draw" "_law_draw" (defArgs s_l_draw) (defBody s_l_draw) (defScope s_l_draw) .none kV25 dc25 pm25 an25 cd25 ct25,f_l_ways_by:=f26,fd_l_ways_by:=PySem.W.fnOf "_law_ways_by" "_law_ways_by" (defArgs s_l_ways_by) (defBody s_l_ways_by) (defScope s_l_ways_by) .none kV26 dc26 pm26 an26 cd26 ct26,f_l_lamps_by:=f27,fd_l_lamps_by:=PySem.W.fnOf "_law_lamps_by" "_law_lamps_by" (defArgs s_l_lamps_by) (defBody s_l_lamps_by) (defScope s_l_lamps_by) .none kV27 dc27 pm27 an27 cd27 ct27,f_l_word_by:=f28,fd_l_word_by:=PySem.W.fnOf "_law_word_by" "_law_word_by" (defArgs s_l_word_by) (defBody s_l_word_by) (defScope s_l_word_by) .none kV28 dc28 pm28 an28 cd28 ct28,f_l_walk:=f29,fd_l_walk:=PySem.W.fnOf "_law_walk" "_law_walk" (defArgs s_l_walk) (defBody s_l_walk) (defScope s_l_walk) .none kV29 dc29 pm29 an29 cd29 ct29,f_l_part:=f30,fd_l_part:=PySem.W.fnOf "_law_part" "_law_part" (defArgs s_l_part) (defBody s_l_part) (defScope s_l_part) .none kV30 dc30 pm30 an30 cd30 ct30,f_l_stands_under:=f31,fd_l_stands_under:=PySem.W.fnOf "_law_stands_under" "_law_stands_under" (defArgs s_l_stands_under) (defBody s_l_stands_under) (defScope s_l_stands_under) .none kV31 dc31 pm31 an31 cd31 ct31,f_l_do:=f32,fd_l_do:=PySem.W.fnOf "_law_do" "_law_do" (defArgs s_l_do) (defBody s_l_do) (defScope s_l_do) .none kV32 dc32 pm32 an32 cd32 ct32,f_l_name:=f33,fd_l_name:=PySem.W.fnOf "_law_name" "_law_name" (defArgs s_l_name) (defBody s_l_name) (defScope s_l_name) .none kV33 dc33 pm33 an33 cd33 ct33,f_l_seen:=f34,fd_l_seen:=PySem.W.fnOf "_law_seen" "_law_seen" (defArgs s_l_seen) (defBody s_l_seen) (defScope s_l_seen) .none kV34 dc34 pm34 an34 cd34 ct34,f_l_refusals_hold:=f35,fd_l_refusals_hold:=PySem.W.fnOf "_law_refusals_hold" "_law_refusals_hold" (defArgs s_l_refusals_hold) (defBody s_l_refusals_hold) (defScope s_l_refusals_hold) .none kV35 dc35 pm35 an35 cd35 ct35,f_l_rows:=f36,fd_l_rows:=PySem.W.fnOf "_law_rows" "_law_rows" (defArgs s_l_rows) (defBody s_l_rows) (defScope s_l_rows) .none kV36 dc36 pm36 an36 cd36 ct36,f_law:=f37,fd_law:=PySem.W.fnOf "law" "law" (defArgs s_law) (defBody s_law) (defScope s_law) .none kV37 dc37 pm37 an37 cd37 ct37 },
   ⟨PySem.W.mg_none_of X G z_len,PySem.W.mg_none_of X G z_range,PySem.W.mg_none_of X G z_isinstance,PySem.W.mg_none_of X G z_list,PySem.W.mg_none_of X G z_enumerate,PySem.W.mg_none_of X G z_tuple,PySem.W.mg_none_of X G z_ValueError,PySem.W.mg_none_of X G z_zip,⟨_,PySem.W.mg_of X G c_MOST_DOORS⟩,⟨_,PySem.W.mg_of X G c_MOST_ROOMS⟩,PySem.W.mg_of X G a_House,⟨pg_House,hd_House,po_House,sa_House⟩,tc_House,tm_House,n_House_doors,n_House_ways,n_House_lamps,PySem.W.mg_of X G a_Book,⟨pg_Book,hd_Book,po_Book,sa_Book⟩,tc_Book,tm_Book,n_Book_doors,n_Book_noted,PySem.W.mg_of X G a_Learner,⟨pg_Learner,hd_Learner,po_Learner,sa_Learner⟩,tc_Learner,tm_Learner,n_Learner_book,n_Learner_doors,n_Learner_heads,n_Learner_tails,n_Learner_lines,n_Learner_rows,n_Learner_filled,PySem.W.mg_of X G a_HouseError,⟨⟨a_HouseError,x_HouseError⟩,g1_HouseError,g2_HouseError,g3_HouseError,g4_HouseError⟩,g4_HouseError,ty_HouseError,mv_HouseError,ms_HouseError,PySem.W.mg_of X G a_BadHouse,⟨⟨a_BadHouse,x_BadHouse⟩,g1_BadHouse,g2_BadHouse,g3_BadHouse,g4_BadHouse⟩,g4_BadHouse,ty_BadHouse,mv_BadHouse,ms_BadHouse,PySem.W.mg_of X G a_BadWord,⟨⟨a_BadWord,x_BadWord⟩,g1_BadWord,g2_BadWord,g3_BadWord,g4_BadWord⟩,g4_BadWord,ty_BadWord,mv_BadWord,ms_BadWord,PySem.W.mg_of X G a_SaidOtherwise,⟨⟨a_SaidOtherwise,x_SaidOtherwise⟩,g1_SaidOtherwise,g2_SaidOtherwise,g3_SaidOtherwise,g4_SaidOtherwise⟩,g4_SaidOtherwise,ty_SaidOtherwise,mv_SaidOtherwise,ms_SaidOtherwise,PySem.W.mg_of X G a_NotAsked,⟨⟨a_NotAsked,x_NotAsked⟩,g1_NotAsked,g2_NotAsked,g3_NotAsked,g4_NotAsked⟩,g4_NotAsked,ty_NotAsked,mv_NotAsked,ms_NotAsked,PySem.W.mg_of X G a_NotYet,⟨⟨a_NotYet,x_NotYet⟩,g1_NotYet,g2_NotYet,g3_NotYet,g4_NotYet⟩,g4_NotYet,ty_NotYet,mv_NotYet,ms_NotYet,PySem.W.mg_of X G a_NotWrong,⟨⟨a_NotWrong,x_NotWrong⟩,g1_NotWrong,g2_NotWrong,g3_NotWrong,g4_NotWrong⟩,g4_NotWrong,ty_NotWrong,mv_NotWrong,ms_NotWrong,mb_HouseError,mb_BadHouse,mb_BadWord,mb_SaidOtherwise,mb_NotAsked,mb_NotYet,mb_NotWrong,mr_NotAsked_HouseError,mr_HouseError_NotAsked,mr_NotAsked_NotYet,mr_NotAsked_BadWord,mr_NotAsked_SaidOtherwise,mr_NotAsked_NotWrong,mr_NotAsked_BadHouse,mr_NotYet_HouseError,mr_HouseError_NotYet,mr_NotYet_NotAsked,mr_NotYet_BadWord,mr_NotYet_SaidOtherwise,mr_NotYet_NotWrong,mr_NotYet_BadHouse,mr_BadWord_HouseError,mr_HouseError_BadWord,mr_BadWord_NotAsked,mr_BadWord_NotYet,mr_BadWord_SaidOtherwise,mr_BadWord_NotWrong,mr_BadWord_BadHouse,mr_SaidOtherwise_HouseError,mr_HouseError_SaidOtherwise,mr_SaidOtherwise_NotAsked,mr_SaidOtherwise_NotYet,mr_SaidOtherwise_BadWord,mr_SaidOtherwise_NotWrong,mr_SaidOtherwise_BadHouse,mr_NotWrong_HouseError,mr_HouseError_NotWrong,mr_NotWrong_NotAsked,mr_NotWrong_NotYet,mr_NotWrong_BadWord,mr_NotWrong_SaidOtherwise,mr_NotWrong_BadHouse,mr_BadHouse_HouseError,mr_HouseError_BadHouse,mr_BadHouse_NotAsked,mr_BadHouse_NotYet,mr_BadHouse_BadWord,mr_BadHouse_SaidOtherwise,mr_BadHouse_NotWrong,tg,tt,PySem.W.mg_of X G a0,fun_mk (st:=s_check_doors) l0 c0 k0,PySem.W.mg_of X G a1,fun_mk (st:=s_check_house) l1 c1 k1,PySem.W.mg_of X G a2,fun_mk (st:=s_check_word) l2 c2 k2,fun_mk (st:=s_House_init) l3 c3 k3,⟨mk_House,a3,i3,kc_House⟩,fun_mk (st:=s_House_rooms) l4 c4 k4,⟨a4,i4,k4⟩,fun_mk (st:=s_House_trail) l5 c5 k5,⟨a5,i5,k5⟩,fun_mk (st:=s_House_room_of) l6 c6 k6,⟨a6,i6,k6⟩,fun_mk (st:=s_House_says) l7 c7 k7,⟨a7,i7,k7⟩,fun_mk (st:=s_Book_init) l8 c8 k8,⟨mk_Book,a8,i8,kc_Book⟩,fun_mk (st:=s_Book_said) l9 c9 k9,⟨a9,i9,k9⟩,fun_mk (st:=s_Book_check_note) l10 c10 k10,⟨a10,i10,k10⟩,fun_mk (st:=s_Book_note) l11 c11 k11,⟨a11,i11,k11⟩,fun_mk (st:=s_Book_all_said) l12 c12 k12,⟨a12,i12,k12⟩,fun_mk (st:=s_Learner_add_head) l13 c13 k13,⟨a13,i13,k13⟩,fun_mk (st:=s_Learner_init) l14 c14 k14,⟨mk_Learner,a14,i14,kc_Learner⟩,fun_mk (st:=s_Learner_gap) l15 c15 k15,⟨a15,i15,k15⟩,fun_mk (st:=s_Learner_question) l16 c16 k16,⟨a16,i16,k16⟩,fun_mk (st:=s_Learner_heads_by_row) l17 c17 k17,⟨a17,i17,k17⟩,fun_mk (st:=s_Learner_unlike_edge) l18 c18 k18,⟨a18,i18,k18⟩,fun_mk (st:=s_Learner_add_unlike_edges) l19 c19 k19,⟨a19,i19,k19⟩,fun_mk (st:=s_Learner_answer) l20 c20 k20,⟨a20,i20,k20⟩,fun_mk (st:=s_Learner_guess) l21 c21 k21,⟨a21,i21,k21⟩,fun_mk (st:=s_Learner_add_tails) l22 c22 k22,⟨a22,i22,k22⟩,fun_mk (st:=s_Learner_wrong) l23 c23 k23,⟨a23,i23,k23⟩,PySem.W.mg_of X G a24,fun_mk (st:=s_l_cell_at) l24 c24 k24,PySem.W.mg_of X G a25,fun_mk (st:=s_l_draw) l25 c25 k25,PySem.W.mg_of X G a26,fun_mk (st:=s_l_ways_by) l26 c26 k26,PySem.W.mg_of X G a27,fun_mk (st:=s_l_lamps_by) l27 c27 k27,PySem.W.mg_of X G a28,fun_mk (st:=s_l_word_by) l28 c28 k28,PySem.W.mg_of X G a29,fun_mk (st:=s_l_walk) l29 c29 k29,PySem.W.mg_of X G a30,fun_mk (st:=s_l_part) l30 c30 k30,PySem.W.mg_of X G a31,fun_mk (st:=s_l_stands_under) l31 c31 k31,PySem.W.mg_of X G a32,fun_mk (st:=s_l_do) l32 c32 k32,PySem.W.mg_of X G a33,fun_mk (st:=s_l_name) l33 c33 k33,PySem.W.mg_of X G a34,fun_mk (st:=s_l_seen) l34 c34 k34,PySem.W.mg_of X G a35,fun_mk (st:=s_l_refusals_hold) l35 c35 k35,PySem.W.mg_of X G a36,fun_mk (st:=s_l_rows) l36 c36 k36,PySem.W.mg_of X G a37,fun_mk (st:=s_law) l37 c37 k37⟩⟩
end My
open PySem PySem.W PyProof.Rows
def _root_.PySem.W.Fast.tw7020388897651135828:Unit:=()
def _root_.PySem.W.Fast.tw17147415929210246026:Unit:=()
def _root_.PySem.W.Fast.tw12537742590272132429:Unit:=()
def _root_.PySem.W.Fast.tw16197831012745127472:Unit:=()
def _root_.PySem.W.Fast.tw4514521314784813453:Unit:=()
def _root_.PySem.W.Fast.tw7401408020382564346:Unit:=()
def _root_.PySem.W.Fast.tw10514381452633060086:Unit:=()
def _root_.PySem.W.Fast.tw16618523955623430589:Unit:=()
def _root_.PySem.W.Fast.tw1588555222521114712:Unit:=()
def _root_.PySem.W.Fast.tw588550369720337676:Unit:=()
def _root_.PySem.W.Fast.tw9609076466187045300:Unit:=()
def _root_.PySem.W.Fast.tw10677538320412331119:Unit:=()
def _root_.PySem.W.Fast.tw1581039504675696904:Unit:=()
def _root_.PySem.W.Fast.tw14459025602762922326:Unit:=()
def _root_.PySem.W.Fast.tw4219096865605550246:Unit:=()
def _root_.PySem.W.Fast.tw8332813212484286044:Unit:=()
def _root_.PySem.W.Fast.tw3736746556509717549:Unit:=()
def _root_.PySem.W.Fast.tw9680101805747371238:Unit:=()
def _root_.PySem.W.Fast.tw11685686292345242447:Unit:=()
def _root_.PySem.W.Fast.tw7119845503405823961:Unit:=()
def _root_.PySem.W.Fast.tw18117460917999079917:Unit:=()
def _root_.PySem.W.Fast.tw3297773864967410116:Unit:=()
def _root_.PySem.W.Fast.tw532041375917367927:Unit:=()
def _root_.PySem.W.Fast.tw11191287010341846025:Unit:=()
def _root_.PySem.W.Fast.tw4188383357008261060:Unit:=()
def _root_.PySem.W.Fast.tw14647026954517208722:Unit:=()
def _root_.PySem.W.Fast.tw17661007460890134850:Unit:=()
def _root_.PySem.W.Fast.tw14501849291424679135:Unit:=()
def _root_.PySem.W.Fast.tw12137920497009863871:Unit:=()
def _root_.PySem.W.Fast.tw7952841747297763570:Unit:=()
def _root_.PySem.W.Fast.tw15265956567173028548:Unit:=()
def _root_.PySem.W.Fast.tw9874927617278425708:Unit:=()
def _root_.PySem.W.Fast.tw5739618149656337189:Unit:=()
def _root_.PySem.W.Fast.tw9091493960265802602:Unit:=()
def _root_.PySem.W.Fast.tw4653897526523612363:Unit:=()
def _root_.PySem.W.Fast.tw11697996669710741500:Unit:=()
def _root_.PySem.W.Fast.tw12716902486347752020:Unit:=()
def _root_.PySem.W.Fast.tw14700516208698855755:Unit:=()
def _root_.PySem.W.Fast.tw1847636743867669695:Unit:=()
def _root_.PySem.W.Fast.tw1506007378480558827:Unit:=()
def _root_.PySem.W.Fast.tw17179293112635824143:Unit:=()
def _root_.PySem.W.Fast.tw5532314867297772576:Unit:=()
def _root_.PySem.W.Fast.tw16153166525434498911:Unit:=()
def _root_.PySem.W.Fast.tw8921400127163018329:Unit:=()
def _root_.PySem.W.Fast.tw11112340740384702756:Unit:=()
def _root_.PySem.W.Fast.tw12944522743713524094:Unit:=()
def _root_.PySem.W.Fast.tw1037152500546257405:Unit:=()
def _root_.PySem.W.Fast.tw3371731067721657075:Unit:=()
def _root_.PySem.W.Fast.tw5766378728796829838:Unit:=()
def _root_.PySem.W.Fast.tw9176382856904521528:Unit:=()
def _root_.PySem.W.Fast.tw2647928943492218469:Unit:=()
def _root_.PySem.W.Fast.tw10229613826153629286:Unit:=()
def _root_.PySem.W.Fast.tw17697271250456576209:Unit:=()
def _root_.PySem.W.Fast.tw17264711812717054397:Unit:=()
def _root_.PySem.W.Fast.tw3201577682377034415:Unit:=()
def _root_.PySem.W.Fast.tw10056099318955350333:Unit:=()
def _root_.PySem.W.Fast.tw16955619053864595107:Unit:=()
def _root_.PySem.W.Fast.tw2640043787277928732:Unit:=()
def _root_.PySem.W.Fast.tw18262637343961515505:Unit:=()
def _root_.PySem.W.Fast.tw418941906520557543:Unit:=()
def _root_.PySem.W.Fast.tw2408713191868018481:Unit:=()
def _root_.PySem.W.Fast.tw6028903212688207599:Unit:=()
def _root_.PySem.W.Fast.tw13989143341471455293:Unit:=()
def _root_.PySem.W.Fast.tw6071432603696206193:Unit:=()
def _root_.PySem.W.Fast.tw5684784542800904749:Unit:=()
def _root_.PySem.W.Fast.tw224364892686019813:Unit:=()
def _root_.PySem.W.Fast.tw14449298848247514720:Unit:=()
def _root_.PySem.W.Fast.tw12204070834664002129:Unit:=()
def _root_.PySem.W.Fast.tw2239055558830669265:Unit:=()
def _root_.PySem.W.Fast.tw13819076819877969491:Unit:=()
def _root_.PySem.W.Fast.tw13634534313781698550:Unit:=()
def _root_.PySem.W.Fast.tw8182507599060600586:Unit:=()
def _root_.PySem.W.Fast.tw16198924504048363204:Unit:=()
def _root_.PySem.W.Fast.tw17449010112291074333:Unit:=()
def _root_.PySem.W.Fast.tw8042731184124392177:Unit:=()
def _root_.PySem.W.Fast.tw9791616999214450746:Unit:=()
def _root_.PySem.W.Fast.tw16166026270619297023:Unit:=()
def _root_.PySem.W.Fast.tw1922106994955685831:Unit:=()
def _root_.PySem.W.Fast.tw10162081375456318338:Unit:=()
def _root_.PySem.W.Fast.tw17735653501766478530:Unit:=()
def _root_.PySem.W.Fast.tw3861093733550895709:Unit:=()
def _root_.PySem.W.Fast.tw11456250613670655852:Unit:=()
def _root_.PySem.W.Fast.tw8647777426101098269:Unit:=()
def _root_.PySem.W.Fast.tw13014686675977777869:Unit:=()
def _root_.PySem.W.Fast.tw9648591405508630891:Unit:=()
def _root_.PySem.W.Fast.tw12284069965825017317:Unit:=()
def _root_.PySem.W.Fast.tw1366509270202425040:Unit:=()
def _root_.PySem.W.Fast.tw18431379393360081031:Unit:=()
def _root_.PySem.W.Fast.tw15850010573556828340:Unit:=()
def _root_.PySem.W.Fast.tw8670628803107617682:Unit:=()
def _root_.PySem.W.Fast.tw5400782250398494831:Unit:=()
def _root_.PySem.W.Fast.tw12486518475336885884:Unit:=()
def _root_.PySem.W.Fast.tw13406060040517489512:Unit:=()
def _root_.PySem.W.Fast.tw10158746684190350801:Unit:=()
def _root_.PySem.W.Fast.tw13180005909222657034:Unit:=()
def _root_.PySem.W.Fast.tw11666728134562482987:Unit:=()
def _root_.PySem.W.Fast.tw1895844470670098124:Unit:=()
def _root_.PySem.W.Fast.tw17259987748333062132:Unit:=()
def _root_.PySem.W.Fast.tw14369794051104052208:Unit:=()
def _root_.PySem.W.Fast.tw11033334770560766787:Unit:=()
def _root_.PySem.W.Fast.tw16927608820066048704:Unit:=()
def _root_.PySem.W.Fast.tw16460433936451235240:Unit:=()
def _root_.PySem.W.Fast.tw672877791679051485:Unit:=()
def _root_.PySem.W.Fast.tw18385697572879788124:Unit:=()
def _root_.PySem.W.Fast.tw8898489861633875077:Unit:=()
def _root_.PySem.W.Fast.tw4941068709966360970:Unit:=()
def _root_.PySem.W.Fast.tw3509774981368431637:Unit:=()
set_option maxRecDepth 100000 in
set_option maxHeartbeats 0 in
theorem PySem.Challenge.cw_askhouse_k20_what_learners_refuse_holds : PySem.Challenge.rw_askhouse_k20_what_learners_refuse.Holds := by
 w_on; o_law; k_head; (case hw => w_witness2)
 k_fill
 refine L2.walk_ofK (l := PySem.Challenge.rw_askhouse_k20_what_learners_refuse) (n := 63) (k := 13) (x := "script") (CX := L2.CX0) (sp := fun K => My.sp_law K) rfl (by decide) rfl ⟨rfl, by decide, by decide⟩ (fun w h Y => PySem.W.kIn_of Y) ?F ?S ?C
 case F =>
  intro w mg fa h KX G hmg
  have T : ∃ t, My.Txt (L2.KOf KX) mg t := by
   dsimp only [L2.KOf]
   refine' My.txt_mk KX G ?z_len ?z_range ?z_isinstance ?z_list ?z_enumerate ?z_tuple ?z_ValueError ?z_zip ?c_MOST_DOORS ?c_MOST_ROOMS ?a_House ?pg_House ?hd_House ?po_House ?sa_House ?mk_House ?kc_House ?tc_House ?tm_House ?n_House_doors ?n_House_ways ?n_House_lamps ?a_Book ?pg_Book ?hd_Book ?po_Book ?sa_Book ?mk_Book ?kc_Book ?tc_Book ?tm_Book ?n_Book_doors ?n_Book_noted ?a_Learner ?pg_Learner ?hd_Learner ?po_Learner ?sa_Learner ?mk_Learner ?kc_Learner ?tc_Learner ?tm_Learner ?n_Learner_book ?n_Learner_doors ?n_Learner_heads ?n_Learner_tails ?n_Learner_lines ?n_Learner_rows ?n_Learner_filled ?a_HouseError ?x_HouseError ?g1_HouseError ?g2_HouseError ?g3_HouseError ?g4_HouseError ?ty_HouseError ?mv_HouseError ?ms_HouseError ?a_BadHouse ?x_BadHouse ?g1_BadHouse ?g2_BadHouse ?g3_BadHouse ?g4_BadHouse ?ty_BadHouse ?mv_BadHouse ?ms_BadHouse ?a_BadWord ?x_BadWord ?g1_BadWord ?g2_BadWord ?g3_BadWord ?g4_BadWord ?ty_BadWord ?mv_BadWord ?ms_BadWord ?a_SaidOtherwise ?x_SaidOtherwise ?g1_SaidOtherwise ?g2_SaidOtherwise ?g3_SaidOtherwise ?g4_SaidOtherwise ?ty_SaidOtherwise ?mv_SaidOtherwise ?ms_SaidOtherwise ?a_NotAsked ?x_NotAsked ?g1_NotAsked ?g2_NotAsked ?g3_NotAsked ?g4_NotAsked ?ty_NotAsked ?mv_NotAsked ?ms_NotAsked ?a_NotYet ?x_NotYet ?g1_NotYet ?g2_NotYet ?g3_NotYet ?g4_NotYet ?ty_NotYet ?mv_NotYet ?ms_NotYet ?a_NotWrong ?x_NotWrong ?g1_NotWrong ?g2_NotWrong ?g3_NotWrong ?g4_NotWrong ?ty_NotWrong ?mv_NotWrong ?ms_NotWrong ?mb_HouseError ?mb_BadHouse ?mb_BadWord ?mb_SaidOtherwise ?mb_NotAsked ?mb_NotYet ?mb_NotWrong ?mr_NotAsked_HouseError ?mr_HouseError_NotAsked ?mr_NotAsked_NotYet ?mr_NotAsked_BadWord ?mr_NotAsked_SaidOtherwise ?mr_NotAsked_NotWrong ?mr_NotAsked_BadHouse ?mr_NotYet_HouseError ?mr_HouseError_NotYet ?mr_NotYet_NotAsked ?mr_NotYet_BadWord ?mr_NotYet_SaidOtherwise ?mr_NotYet_NotWrong ?mr_NotYet_BadHouse ?mr_BadWord_HouseError ?mr_HouseError_BadWord ?mr_BadWord_NotAsked ?mr_BadWord_NotYet ?mr_BadWord_SaidOtherwise ?mr_BadWord_NotWrong ?mr_BadWord_BadHouse ?mr_SaidOtherwise_HouseError ?mr_HouseError_SaidOtherwise ?mr_SaidOtherwise_NotAsked ?mr_SaidOtherwise_NotYet ?mr_SaidOtherwise_BadWord ?mr_SaidOtherwise_NotWrong ?mr_SaidOtherwise_BadHouse ?mr_NotWrong_HouseError ?mr_HouseError_NotWrong ?mr_NotWrong_NotAsked ?mr_NotWrong_NotYet ?mr_NotWrong_BadWord ?mr_NotWrong_SaidOtherwise ?mr_NotWrong_BadHouse ?mr_BadHouse_HouseError ?mr_HouseError_BadHouse ?mr_BadHouse_NotAsked ?mr_BadHouse_NotYet ?mr_BadHouse_BadWord ?mr_BadHouse_SaidOtherwise ?mr_BadHouse_NotWrong ?tg ?tt ?a0 ?l0 ?c0 ?k0 ?a1 ?l1 ?c1 ?k1 ?a2 ?l2 ?c2 ?k2 ?a3 ?i3 ?l3 ?c3 ?k3 ?a4 ?i4 ?l4 ?c4 ?k4 ?a5 ?i5 ?l5 ?c5 ?k5 ?a6 ?i6 ?l6 ?c6 ?k6 ?a7 ?i7 ?l7 ?c7 ?k7 ?a8 ?i8 ?l8 ?c8 ?k8 ?a9 ?i9 ?l9 ?c9 ?k9 ?a10 ?i10 ?l10 ?c10 ?k10 ?a11 ?i11 ?l11 ?c11 ?k11 ?a12 ?i12 ?l12 ?c12 ?k12 ?a13 ?i13 ?l13 ?c13 ?k13 ?a14 ?i14 ?l14 ?c14 ?k14 ?a15 ?i15 ?l15 ?c15 ?k15 ?a16 ?i16 ?l16 ?c16 ?k16 ?a17 ?i17 ?l17 ?c17 ?k17 ?a18 ?i18 ?l18 ?c18 ?k18 ?a19 ?i19 ?l19 ?c19 ?k19 ?a20 ?i20 ?l20 ?c20 ?k20 ?a21 ?i21 ?l21 ?c21 ?k21 ?a22 ?i22 ?l22 ?c22 ?k22 ?a23 ?i23 ?l23 ?c23 ?k23 ?a24 ?l24 ?c24 ?k24 ?a25 ?l25 ?c25 ?k25 ?a26 ?l26 ?c26 ?k26 ?a27 ?l27 ?c27 ?k27 ?a28 ?l28 ?c28 ?k28 ?a29 ?l29 ?c29 ?k29 ?a30 ?l30 ?c30 ?k30 ?a31 ?l31 ?c31 ?k31 ?a32 ?l32 ?c32 ?k32 ?a33 ?l33 ?c33 ?k33 ?a34 ?l34 ?c34 ?k34 ?a35 ?l35 ?c35 ?k35 ?a36 ?l36 ?c36 ?k36 ?a37 ?l37 ?c37 ?k37
   case z_len | z_range | z_isinstance | z_list | z_enumerate | z_tuple | z_ValueError | z_zip | c_MOST_DOORS | c_MOST_ROOMS | a_House | pg_House | hd_House | po_House | sa_House | mk_House | kc_House | tc_House | tm_House | n_House_doors | n_House_ways | n_House_lamps | a_Book | pg_Book | hd_Book | po_Book | sa_Book | mk_Book | kc_Book | tc_Book | tm_Book | n_Book_doors | n_Book_noted | a_Learner | pg_Learner | hd_Learner | po_Learner | sa_Learner | mk_Learner | kc_Learner | tc_Learner | tm_Learner | n_Learner_book | n_Learner_doors | n_Learner_heads | n_Learner_tails | n_Learner_lines | n_Learner_rows | n_Learner_filled | a_HouseError => k_is
   (case x_HouseError => k_exc)
   case g1_HouseError | g2_HouseError | g3_HouseError | g4_HouseError | ty_HouseError | mv_HouseError | ms_HouseError | a_BadHouse => k_is
   (case x_BadHouse => k_exc)
   case g1_BadHouse | g2_BadHouse | g3_BadHouse | g4_BadHouse | ty_BadHouse | mv_BadHouse | ms_BadHouse | a_BadWord => k_is
   (case x_BadWord => k_exc)
   case g1_BadWord | g2_BadWord | g3_BadWord | g4_BadWord | ty_BadWord | mv_BadWord | ms_BadWord | a_SaidOtherwise => k_is
   (case x_SaidOtherwise => k_exc)
   case g1_SaidOtherwise | g2_SaidOtherwise | g3_SaidOtherwise | g4_SaidOtherwise | ty_SaidOtherwise | mv_SaidOtherwise | ms_SaidOtherwise | a_NotAsked => k_is
   (case x_NotAsked => k_exc)
   case g1_NotAsked | g2_NotAsked | g3_NotAsked | g4_NotAsked | ty_NotAsked | mv_NotAsked | ms_NotAsked | a_NotYet => k_is
   (case x_NotYet => k_exc)
   case g1_NotYet | g2_NotYet | g3_NotYet | g4_NotYet | ty_NotYet | mv_NotYet | ms_NotYet | a_NotWrong => k_is
   (case x_NotWrong => k_exc)
   case g1_NotWrong | g2_NotWrong | g3_NotWrong | g4_NotWrong | ty_NotWrong | mv_NotWrong | ms_NotWrong | mb_HouseError | mb_BadHouse | mb_BadWord | mb_SaidOtherwise | mb_NotAsked | mb_NotYet | mb_NotWrong | mr_NotAsked_HouseError | mr_HouseError_NotAsked | mr_NotAsked_NotYet | mr_NotAsked_BadWord | mr_NotAsked_SaidOtherwise | mr_NotAsked_NotWrong | mr_NotAsked_BadHouse | mr_NotYet_HouseError | mr_HouseError_NotYet | mr_NotYet_NotAsked | mr_NotYet_BadWord | mr_NotYet_SaidOtherwise | mr_NotYet_NotWrong | mr_NotYet_BadHouse | mr_BadWord_HouseError | mr_HouseError_BadWord | mr_BadWord_NotAsked | mr_BadWord_NotYet | mr_BadWord_SaidOtherwise | mr_BadWord_NotWrong | mr_BadWord_BadHouse | mr_SaidOtherwise_HouseError | mr_HouseError_SaidOtherwise | mr_SaidOtherwise_NotAsked | mr_SaidOtherwise_NotYet | mr_SaidOtherwise_BadWord | mr_SaidOtherwise_NotWrong | mr_SaidOtherwise_BadHouse | mr_NotWrong_HouseError | mr_HouseError_NotWrong | mr_NotWrong_NotAsked | mr_NotWrong_NotYet | mr_NotWrong_BadWord | mr_NotWrong_SaidOtherwise | mr_NotWrong_BadHouse | mr_BadHouse_HouseError | mr_HouseError_BadHouse | mr_BadHouse_NotAsked | mr_BadHouse_NotYet | mr_BadHouse_BadWord | mr_BadHouse_SaidOtherwise | mr_BadHouse_NotWrong | tg | tt | a0 | l0 | c0 | k0 | a1 | l1 | c1 | k1 | a2 | l2 | c2 | k2 | a3 | i3 | l3 | c3 | k3 | a4 | i4 | l4 | c4 | k4 | a5 | i5 | l5 | c5 | k5 | a6 | i6 | l6 | c6 | k6 | a7 | i7 | l7 | c7 | k7 | a8 | i8 | l8 | c8 | k8 | a9 | i9 | l9 | c9 | k9 | a10 | i10 | l10 | c10 | k10 | a11 | i11 | l11 | c11 | k11 | a12 | i12 | l12 | c12 | k12 | a13 | i13 | l13 | c13 | k13 | a14 | i14 | l14 | c14 | k14 | a15 | i15 | l15 | c15 | k15 | a16 | i16 | l16 | c16 | k16 | a17 | i17 | l17 | c17 | k17 | a18 | i18 | l18 | c18 | k18 | a19 | i19 | l19 | c19 | k19 | a20 | i20 | l20 | c20 | k20 | a21 | i21 | l21 | c21 | k21 | a22 | i22 | l22 | c22 | k22 | a23 | i23 | l23 | c23 | k23 | a24 | l24 | c24 | k24 | a25 | l25 | c25 | k25 | a26 | l26 | c26 | k26 | a27 | l27 | c27 | k27 | a28 | l28 | c28 | k28 | a29 | l29 | c29 | k29 | a30 | l30 | c30 | k30 | a31 | l31 | c31 | k31 | a32 | l32 | c32 | k32 | a33 | l33 | c33 | k33 | a34 | l34 | c34 | k34 | a35 | l35 | c35 | k35 | a36 | l36 | c36 | k36 | a37 | l37 | c37 | k37 => k_is
  obtain ⟨t, T⟩ := T
  have e0 := hmg.symm.trans T.mg_law
  cases e0
  refine' ⟨t.fd_law, ?b, fun base kb nb => My.ok_law T⟩
  obtain ⟨oc, od, kV, doc, pm, an, cdv, ct, osl, e, _, _⟩ := T.F_law.ex
  rw [e]
  exact fun s u => .of_eq rfl
 case S => exact fun K H a ns hl hO hS => ⟨a, ns, rfl, hS, hl, fun _ => rfl⟩
 case C => exact fun _ _ _ _ h => h
#print axioms PySem.Challenge.cw_askhouse_k20_what_learners_refuse_holds
