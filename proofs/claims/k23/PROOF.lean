import PyProof.Rows.All
import Wide.All
import OpenK.AllK
import Wide.FinOn
import Lean
import PyProof.EqAt
import PyProof.EqKinds
import PyProof.TupleCall
import PyProof.Draws
import PySem.Challenge.RW_askhouse_k23_refusals_apart
set_option Elab.async false
set_option linter.all false
set_option maxRecDepth 100000
namespace L2
open PySem PySem.Spec PyProof.Rows
abbrev Key:=Sum Int Str
def keyIs:Key→Value→Bool
 | .inl k,v=>Value.isInt k v
 | .inr x,v=>Value.isStrOf x v
def keyH (w:World):Key→Int
 | .inl k=>hashInt k
 | .inr x=>hashStr w x
theorem keyIs_shape:∀ {k:Key} {v:Value},keyIs k v=true→(∃ i t,k=Sum.inl i∧v=Value.int i t)∨(∃ x t,k=Sum.inr x∧v=Value.str x t)
 | .inl i,v,h=>by
  obtain ⟨t,e⟩:=Value.isInt_shape (k:=i) (v:=v) h
  exact .inl ⟨i,t,rfl,e⟩
 | .inr x,v,h=>by
  obtain ⟨t,e⟩:=Value.isStrOf_shape (x:=x) (v:=v) h
  exact .inr ⟨x,t,rfl,e⟩
theorem keyIs_int (i:Int) (t:Tok):keyIs (.inl i) (.int i t)=true:=by simp [keyIs,Value.isInt]
theorem keyIs_str (x:Str) (t:Tok):keyIs (.inr x) (.str x t)=true:=by simp [keyIs,Value.isStrOf]
theorem key_ll (a b:Int):decide ((Sum.inl a:Key)=Sum.inl b)=(a == b):=by
 by_cases e:a=b
 ·subst e;simp
 ·have h:¬ (Sum.inl a:Key)=Sum.inl b:=fun q=>e (Sum.inl.inj q)
  rw [decide_eq_false h]
  exact (beq_eq_false_iff_ne.mpr e).symm
theorem key_rr (a b:Str):decide ((Sum.inr a:Key)=Sum.inr b)=decide (a=b):=by
 by_cases e:a=b
 ·subst e;simp
 ·have h:¬ (Sum.inr a:Key)=Sum.inr b:=fun q=>e (Sum.inr.inj q)
  rw [decide_eq_false h,decide_eq_false e]
theorem key_lr (a:Int) (b:Str):decide ((Sum.inl a:Key)=Sum.inr b)=false:=decide_eq_false (fun q=>nomatch q)
theorem key_rl (a:Str) (b:Int):decide ((Sum.inr a:Key)=Sum.inl b)=false:=decide_eq_false (fun q=>nomatch q)
def mixKind (prog:Program) (w:World):PySem.KeyKind prog w Key where
 is:=keyIs
 hash:=keyH w
 inj:=fun v a b ha hb=>by
  rcases keyIs_shape ha with ⟨i,t,rfl,rfl⟩ | ⟨x,t,rfl,rfl⟩
  ·rcases keyIs_shape hb with ⟨j,u,rfl,e⟩ | ⟨y,u,rfl,e⟩
   ·injection e with e1 _;rw [e1]
   ·exact nomatch e
  ·rcases keyIs_shape hb with ⟨j,u,rfl,e⟩ | ⟨y,u,rfl,e⟩
   ·exact nomatch e
   ·injection e with e1 _;rw [e1]
 byValue:=fun k v h=>by
  rcases keyIs_shape h with ⟨i,t,rfl,rfl⟩ | ⟨x,t,rfl,rfl⟩ <;> rfl
 pyHash:=fun hv h=>by
  rcases keyIs_shape hv with ⟨i,t,rfl,rfl⟩ | ⟨x,t,rfl,rfl⟩
  ·exact wpAny_pyHash_int h
  ·exact wpAny_pyHash_str h
 eqBool:=fun hu hv h=>by
  rcases keyIs_shape hu with ⟨i,t,rfl,rfl⟩ | ⟨x,t,rfl,rfl⟩
  ·rcases keyIs_shape hv with ⟨j,u,rfl,rfl⟩ | ⟨y,u,rfl,rfl⟩
   ·rw [key_ll] at h;exact wpAny_eqBool_int h
   ·rw [key_lr] at h;exact SeqAt.EqAt.int_str i t y u _ _ _ _ h
  ·rcases keyIs_shape hv with ⟨j,u,rfl,rfl⟩ | ⟨y,u,rfl,rfl⟩
   ·rw [key_rl] at h;exact SeqAt.EqAt.str_int x t j u _ _ _ _ h
   ·rw [key_rr] at h;exact wpAny_eqBool_str h
 «strs»:=fun k x t v h=>by
  rcases keyIs_shape h with ⟨i,u,rfl,e⟩ | ⟨y,u,rfl,e⟩
  ·exact nomatch e
  ·injection e with e1 _
   subst e1
   cases v <;> rfl
theorem mixKind_int (prog:Program) (w:World) (i:Int) (t:Tok):(mixKind prog w).is (.inl i) (.int i t)=true:=keyIs_int i t
theorem mixKind_str (prog:Program) (w:World) (x:Str) (t:Tok):(mixKind prog w).is (.inr x) (.str x t)=true:=keyIs_str x t
end L2
namespace L2
open PySem PySem.Spec PyProof.Rows
inductive V where
 | non | bl (b:Bool) | int (i:Int) | str (x:Str) | byt (b:Array UInt8) | flt (b:UInt64) | ref (a:Addr) | ty (n:String)
 deriving DecidableEq
def RelV:V→Value→Prop
 | .non,u=>u=Value.none
 | .bl b,u=>u=Value.bool b
 | .int i,u=>∃ t,u=Value.int i t
 | .str x,u=>∃ t,u=Value.str x t
 | .byt b,u=>∃ t,u=Value.bytes b t
 | .flt b,u=>∃ t,u=Value.float b t
 | .ref a,u=>u=Value.ref a
 | .ty n,u=>u=Value.type n
abbrev Vals:List V→List Value→Prop:=Paired RelV
theorem Vals.length {xs:List V} {us:List Value} (r:Vals xs us):xs.length=us.length:=Paired.length r
theorem Vals.get:∀ {xs:List V} {us:List Value} {i:Nat} {x:V},Vals xs us→xs[i]?=some x→∃ u,us[i]?=some u∧RelV x u
 | _,_,_,_,.nil,e=>by simp at e
 | _,_,0,_,.cons r _,e=>by simp at e;subst e;exact ⟨_,rfl,r⟩
 | _,_,i+1,x,.cons _ t,e=>by
  obtain ⟨u,h1,h2⟩:=Vals.get (i:=i) (x:=x) t (by simpa using e)
  exact ⟨u,by simpa using h1,h2⟩
theorem Vals.append:∀ {xs ys:List V} {us ws:List Value},Vals xs us→Vals ys ws→Vals (xs++ys) (us++ws)
 | _,_,_,_,.nil,s=>s
 | _,_,_,_,.cons r t,s=>.cons r (Vals.append t s)
theorem Vals.take:∀ {xs:List V} {us:List Value} (n:Nat),Vals xs us→Vals (xs.take n) (us.take n)
 | _,_,0,_=>.nil
 | _,_,_+1,.nil=>.nil
 | _,_,n+1,.cons r t=>.cons r (Vals.take n t)
theorem Vals.drop:∀ {xs:List V} {us:List Value} (n:Nat),Vals xs us→Vals (xs.drop n) (us.drop n)
 | _,_,0,r=>r
 | _,_,_+1,.nil=>.nil
 | _,_,n+1,.cons _ t=>Vals.drop n t
theorem Vals.none_of:∀ {xs:List V} {us:List Value} {i:Nat},Vals xs us→xs[i]?=none→us[i]?=none:=fun {xs us i} r e=>by
 have h1:=r.length
 have h2:xs.length≤i:=List.getElem?_eq_none_iff.mp e
 exact List.getElem?_eq_none_iff.mpr (by omega)
def RelO:Option V→Option Value→Prop
 | some v,some u=>RelV v u
 | none,none=>True
 | _,_=>False
def KV {κ:Type}:List (κ×V)→List (κ×Value)→Prop:=Paired fun (p:κ×V) (q:κ×Value)=>p.1=q.1∧RelV p.2 q.2
def kV:Key→V
 | .inl i=>.int i
 | .inr x=>.str x
inductive HO where
 | lst (xs:List V)
 | tup (xs:List V)
 | dK (kvs:List (Key×V)) | dT (kvs:List (List Key×V))
 | set (S:Int→Bool) (n:Nat)
 | ins (C dx:Addr) (fs:List (Str×V))
 | own (x:Addr)
 | xd (fs:List (Str×V))
 | met (f x:Addr)
 | rng (lo hi:Int)
 | frz (o:Obj) (u:HO)
 | tbl (ps:Array Value)
 | ext (φ:Heap→Prop)
abbrev Hp:=Addr→Option HO
def upd (H:Hp) (a:Addr) (o:HO):Hp:=fun b=>if b=a then some o else H b
theorem upd_same {H:Hp} {a:Addr} {o:HO}:upd H a o a=some o:=by unfold upd;rw [if_pos rfl]
theorem upd_ne {H:Hp} {a b:Addr} {o:HO} (h:b≠a):upd H a o b=H b:=by unfold upd;rw [if_neg h]
theorem upd_upd {H:Hp} {a:Addr} {o u:HO}:upd (upd H a o) a u=upd H a u:=by
 funext b;unfold upd;split <;> rfl
theorem ne_of {H:Hp} {a b:Addr} {o u:HO} (h:H a=some o) (h':H b=some u) (d:o≠u):a≠b:=by
 intro e;subst e;rw [h] at h';exact d (Option.some.inj h')
theorem ne_of_none {H:Hp} {a b:Addr} {o:HO} (h:H a=some o) (h':H b=none):a≠b:=by
 intro e;subst e;rw [h] at h';cases h'
section
variable (P:Program) (w:World)
def ObjOk (H:Hp) (h:Heap) (a:Addr):HO→Prop
 | .lst xs=>xs.length≤sizeLine∧∃ (its:List Value) (n:Nat),Vals xs its∧h.get? a=some { cls:=.type "list",data:=.seq its.toArray n }
 | .tup xs=>xs.length≤sizeLine∧∃ its:List Value,Vals xs its∧IsTup h a its.toArray
 | .dK kvs=>kvs.length≤sizeLine∧(a == sysModules)=false∧∃ vs,KV kvs vs∧h.DictOf (mixKind P w) a vs
 | .dT kvs=>kvs.length≤sizeLine∧(a == sysModules)=false∧∃ xs:List (List Key×Addr×Value),
   Paired (fun (p:List Key×V) (q:List Key×Addr×Value)=>p.1=q.1∧H q.2.1=some (.tup (p.1.map kV))∧RelV p.2 q.2.2) kvs xs ∧
   ∃ o es ep,h.get? a=some o∧o.ExactDict∧o.data=.dict es ep∧es.toList=xs.map (entryOfKey (tupleKind (mixKind P w)))∧(xs.map (·.1)).Nodup
 | .set S n=>h.SetOf (intKind P w) a S n
 | .ins C dx fs=>H dx=some (.own a)∧fs.length≤1000∧dx≠a∧h.get? a=some (PySem.W.instObj C dx) ∧
   ∃ mA,h.Ns1 dx mA∧(∀ f,RelO (fs.lookup f) (mA f))∧PySem.Within mA (fs.map (·.1))
 | .own _=>∃ o,h.get? a=some o
 | .xd fs=>∃ mA,h.Ns1 a mA∧∀ f,RelO (fs.lookup f) (mA f)
 | .rng lo hi=>∃ t u v,h.get? a=some { cls:=.type "range",data:=.fields #[.int lo t,.int hi u,.int 1 v] }
 | .frz o u=>h.get? a=some o∧ObjOk H h a u
 | .tbl ps=>h.get? a=some { cls:=.none,data:=.fields ps }
 | .met f x=>h.get? a=some (PySem.W.methodObj (.ref f) (.ref x))
 | .ext φ=>φ h∧(∃ o,h.get? a=some o)∧∀ h1 h2:Heap,φ h1→(∀ o,h1.get? a=some o→h2.get? a=some o)→φ h2
def HOk (H:Hp) (h:Heap):Prop:=∀ a o,H a=some o→ObjOk P w H h a o
end
section
variable {P:Program} {w:World} {H H':Hp} {h h':Heap} {a:Addr} {o:HO}
theorem ObjOk.lt (x:ObjOk P w H h a o):a < h.objs.size:=by
 cases o with
 | lst xs=>obtain ⟨_,_,_,_,e⟩:=x;exact Heap.lt_size e
 | tup xs=>obtain ⟨_,_,_,p⟩:=x;exact p.lt
 | dK kvs=>obtain ⟨_,_,_,_,o,_,_,e,_⟩:=x;exact Heap.lt_size e
 | dT kvs=>obtain ⟨_,_,_,_,o,_,_,e,_⟩:=x;exact Heap.lt_size e
 | set S n=>obtain ⟨o,_,_,_,e,_⟩:=x;exact Heap.lt_size e
 | ins C dx fs=>obtain ⟨_,_,_,e,_⟩:=x;exact Heap.lt_size e
 | own y=>obtain ⟨_,e⟩:=x;exact Heap.lt_size e
 | xd fs=>obtain ⟨_,⟨_,_,_,e,_⟩,_⟩:=x;exact Heap.lt_size e
 | rng lo hi=>obtain ⟨_,_,_,e⟩:=x;exact Heap.lt_size e
 | frz ob u=>obtain ⟨e,_⟩:=x;exact Heap.lt_size e
 | tbl ps=>exact Heap.lt_size (show h.get? a=some _ from x)
 | met f y=>exact Heap.lt_size (show h.get? a=some _ from x)
 | ext φ=>obtain ⟨_,⟨_,e⟩,_⟩:=x;exact Heap.lt_size e
theorem Paired.mapP {α β:Type} {F G:α→β→Prop}:∀ {l₁:List α} {l₂:List β},Paired F l₁ l₂→(∀ a b,F a b→G a b)→Paired G l₁ l₂
 | _,_,.nil,_=>.nil
 | _,_,.cons r t,f=>.cons (f _ _ r) (Paired.mapP t f)
theorem ObjOk.stay (x:ObjOk P w H h a o) (k:∀ b u,(b=a∨H b=some (.own a))→h.get? b=some u→h'.get? b=some u)
  (ho:∀ b,H b=some (.own a)→H' b=some (.own a)) (ht:∀ b xs,H b=some (.tup xs)→H' b=some (.tup xs)):ObjOk P w H' h' a o:=by
 induction o with
 | lst xs=>obtain ⟨z,its,n,r,e⟩:=x;exact ⟨z,its,n,r,k _ _ (.inl rfl) e⟩
 | tup xs=>obtain ⟨z,its,r,ob,e,c⟩:=x;exact ⟨z,its,r,ob,k _ _ (.inl rfl) e,c⟩
 | dK kvs=>obtain ⟨z,y,vs,r,ob,es,ep,e,c⟩:=x;exact ⟨z,y,vs,r,ob,es,ep,k _ _ (.inl rfl) e,c⟩
 | dT kvs =>
  obtain ⟨z,y,xs,r,ob,es,ep,e,c⟩:=x
  exact ⟨z,y,xs,Paired.mapP r fun p q z=>⟨z.1,ht _ _ z.2.1,z.2.2⟩,ob,es,ep,k _ _ (.inl rfl) e,c⟩
 | set S n=>obtain ⟨ob,es,ep,t,e,c⟩:=x;exact ⟨ob,es,ep,t,k _ _ (.inl rfl) e,c⟩
 | ins C dx fs =>
  obtain ⟨d,z,ne,e,mA,⟨od,es,ep,e2,c⟩,r⟩:=x
  exact ⟨ho _ d,z,ne,k _ _ (.inl rfl) e,mA,⟨od,es,ep,k _ _ (.inr d) e2,c⟩,r⟩
 | own y=>obtain ⟨ob,e⟩:=x;exact ⟨ob,k _ _ (.inl rfl) e⟩
 | xd fs=>obtain ⟨mA,⟨od,es,ep,e,c⟩,r⟩:=x;exact ⟨mA,⟨od,es,ep,k _ _ (.inl rfl) e,c⟩,r⟩
 | rng lo hi=>obtain ⟨t,u,v,e⟩:=x;exact ⟨t,u,v,k _ _ (.inl rfl) e⟩
 | frz ob u ih=>obtain ⟨e,q⟩:=x;exact ⟨k _ _ (.inl rfl) e,ih q⟩
 | tbl ps =>
  have e:h.get? a=some { cls:=.none,data:=.fields ps }:=x
  show h'.get? a=some { cls:=.none,data:=.fields ps }
  exact k a _ (.inl rfl) e
 | met f y =>
  have e:h.get? a=some (PySem.W.methodObj (.ref f) (.ref y)):=x
  show h'.get? a=some (PySem.W.methodObj (.ref f) (.ref y))
  exact k a _ (.inl rfl) e
 | ext φ=>obtain ⟨p,⟨o,e⟩,st⟩:=x;exact ⟨st _ _ p fun o q=>k _ _ (.inl rfl) q,⟨o,k _ _ (.inl rfl) e⟩,st⟩
theorem HOk.lt (x:HOk P w H h) (e:H a=some o):a < h.objs.size:=(x a o e).lt
theorem HOk.fresh (x:HOk P w H h) (e:h.objs.size≤a):H a=none:=by
 cases q:H a with
 | none=>rfl
 | some u=>exact absurd (Nat.lt_of_lt_of_le (x.lt q) e) (Nat.lt_irrefl _)
theorem HOk.kept (x:HOk P w H h) (k:∀ b u,h.get? b=some u→h'.get? b=some u):HOk P w H h':=fun a o e =>
 (x a o e).stay (fun b u _ q=>k b u q) (fun _ q=>q) fun _ _ q=>q
theorem HOk.laid (x:HOk P w H h) (k:∀ b u,h.get? b=some u→h'.get? b=some u) (hp:h.objs.size≤a) (new:ObjOk P w (upd H a o) h' a o):HOk P w (upd H a o) h':=fun b u e=>by
 have hn:=x.fresh hp
 by_cases hb:b=a
 ·subst hb;rw [upd_same] at e;cases e;exact new
 ·rw [upd_ne hb] at e
  exact (x b u e).stay (fun c v _ q=>k c v q) (fun c q=>by rw [upd_ne (ne_of_none q hn)];exact q) fun c xs q=>by rw [upd_ne (ne_of_none q hn)];exact q
end
def Rd (H:Hp) (a:Addr) (u:HO):Prop:=H a=some u∨∃ o,H a=some (.frz o u)
theorem Rd.ok {P:Program} {w:World} {H:Hp} {h:Heap} {a:Addr} {u:HO} (r:Rd H a u) (x:HOk P w H h):ObjOk P w H h a u:=by
 rcases r with r | ⟨o,r⟩
 ·exact x a u r
 ·obtain ⟨_,q⟩:=x a _ r
  exact q
def Mut:Option HO→Prop
 | some (.lst _)=>True
 | some (.dK _)=>True
 | some (.dT _)=>True
 | some (.set _ _)=>True
 | some (.ins _ _ _)=>True
 | some (.ext _)=>True
 | _=>False
section
variable {P:Program} {w:World} {H:Hp} {h h':Heap} {x e:Addr} {o':HO}
theorem HOk.write (ok:HOk P w H h) (mu:Mut (H x)) (he:e=x∨H e=some (.own x)) (k:∀ b u,b≠e→h.get? b=some u→h'.get? b=some u) (heo:∃ u,h'.get? e=some u)
  (new:ObjOk P w (upd H x o') h' x o'):HOk P w (upd H x o') h':=fun b u q=>by
 have nown:∀ c y,H c=some (.own y)→c≠x:=fun c y r z=>by subst z;rw [r] at mu;exact mu
 have ntup:∀ c xs,H c=some (.tup xs)→c≠x:=fun c xs r z=>by subst z;rw [r] at mu;exact mu
 by_cases hb:b=x
 ·subst hb;rw [upd_same] at q;cases q;exact new
 ·rw [upd_ne hb] at q
  by_cases hbe:b=e
  ·have q':H b=some (.own x):=by
    rcases he with z | z
    ·exact absurd (hbe.trans z) hb
    ·rw [hbe];exact z
   rw [q] at q';cases q'
   obtain ⟨v,hv⟩:=heo
   exact ⟨v,by rw [hbe];exact hv⟩
  ·refine (ok b u q).stay (fun c v hc r=>k c v ?_ r) (fun c r=>by rw [upd_ne (nown c b r)];exact r) fun c xs r=>by rw [upd_ne (ntup c xs r)];exact r
   rcases hc with rfl | hc
   ·exact hbe
   ·rintro rfl
    rcases he with z | z
    ·exact nown c b hc z
    ·rw [hc] at z;cases z;exact hb rfl
end
structure Un (fs ex:List Addr) (H H':Hp) (h h':Heap):Prop where
 keep:∀ b o,h.get? b=some o→H b=none→b∉fs→b∉ex→h'.get? b=some o
 slot:∀ b o,h.get? b=some o→H b=none→b∈fs→b∉ex→∃ sl,h'.get? b=some { o with slots:=sl }
 free:∀ b o,h.get? b=some o→H b=none→b∉ex→H' b=none
 there:∀ b o,h.get? b=some o→b∉ex→∃ o',h'.get? b=some o'
 tups:∀ b xs,H b=some (.tup xs)→H' b=some (.tup xs)
 frzs:∀ b o u,H b=some (.frz o u)→H' b=some (.frz o u)
 tbls:∀ b ps,H b=some (.tbl ps)→∃ more,H' b=some (.tbl (ps++more))
section
variable {fs fs' ex ex':List Addr} {H H1 H2:Hp} {h h1 h2 h':Heap} {a x e:Addr} {o:HO}
theorem Un.any (u:Un fs ex H H1 h h1) {b:Addr} {ob:Obj} (q:h.get? b=some ob) (n:H b=none) (hx:b∉ex):∃ sl,h1.get? b=some { ob with slots:=sl }:=by
 by_cases hb:b∈fs
 ·exact u.slot b ob q n hb hx
 ·exact ⟨ob.slots,u.keep b ob q n hb hx⟩
theorem Un.kept (k:∀ b u,h.get? b=some u→h'.get? b=some u):Un fs ex H H h h' :=
 ⟨fun b ob q _ _ _=>k b ob q,fun b ob q _ _ _=>⟨ob.slots,k b ob q⟩,fun _ _ _ n _=>n,fun b ob q _=>⟨ob,k b ob q⟩,fun _ _ q=>q,fun _ _ _ q=>q,fun _ ps q=>⟨#[],by rw [q];simp⟩⟩
theorem Un.refl:Un fs ex H H h h:=Un.kept fun _ _ q=>q
theorem Un.laid (k:∀ b u,h.get? b=some u→h'.get? b=some u) (hp:h.objs.size≤a) (hn:H a=none):Un fs ex H (upd H a o) h h' where
 keep:=fun b u q _ _ _=>k b u q
 slot:=fun b u q _ _ _=>⟨u.slots,k b u q⟩
 free:=fun b u q n _=>by rw [upd_ne (Nat.ne_of_lt (Nat.lt_of_lt_of_le (Heap.lt_size q) hp))];exact n
 there:=fun b u q _=>⟨u,k b u q⟩
 tups:=fun b xs q=>by rw [upd_ne (ne_of_none q hn)];exact q
 frzs:=fun b u xs q=>by rw [upd_ne (ne_of_none q hn)];exact q
 tbls:=fun b ps q=>⟨#[],by rw [upd_ne (ne_of_none q hn),q];simp⟩
theorem Un.write (mu:Mut (H x)) (he:e=x∨H e=some (.own x)) (k:∀ b u,b≠e→h.get? b=some u→h'.get? b=some u) (heo:∃ u,h'.get? e=some u):Un fs ex H (upd H x o) h h':=by
 have hx:∀ b,H b=none→b≠x:=fun b n z=>by subst z;rw [n] at mu;exact mu
 have hb:∀ b,H b=none→b≠e:=fun b n z=>by
  subst z
  rcases he with r | r
  ·exact hx b n r
  ·rw [n] at r;cases r
 have hm:∀ b u,H b=some u→¬ Mut (some u)→b≠x:=fun b u q nm z=>by subst z;rw [q] at mu;exact nm mu
 refine ⟨fun b u q n _ _=>k b u (hb b n) q,fun b u q n _ _=>⟨u.slots,k b u (hb b n) q⟩,fun b u q n _=>by rw [upd_ne (hx b n)];exact n,fun b u q _=>?_,
  fun b xs q=>by rw [upd_ne (hm b _ q fun z=>z)];exact q,fun b u xs q=>by rw [upd_ne (hm b _ q fun z=>z)];exact q,fun b ps q=>⟨#[],by rw [upd_ne (hm b _ q fun z=>z),q];simp⟩⟩
 by_cases hbe:b=e
 ·subst hbe;exact heo
 ·exact ⟨u,k b u hbe q⟩
end
def trk (h:Heap) (H:Hp):List Addr:=(List.range h.objs.size).filter fun a=>(H a).isSome
def hidT (h:Heap) (H:Hp):Heap:=PySem.W.hideAll h (trk h H)
theorem hidT_size (h:Heap) (H:Hp):(hidT h H).objs.size=h.objs.size:=PySem.W.hideAll_size _ _
theorem hidT_get {h:Heap} {H:Hp} {b:Addr} {o:Obj} (e:h.get? b=some o) (n:H b=none):(hidT h H).get? b=some o :=
 PySem.W.hideAll_get _ e fun hm=>by
  have q:(H b).isSome=true:=(List.mem_filter.mp hm).2
  rw [n] at q;simp at q
theorem of_hidT {h:Heap} {H:Hp} {b:Addr} {o:Obj} (e:(hidT h H).get? b=some o):h.get? b=some o∧H b=none:=by
 have e':h.get? b=some o:=PySem.W.of_hideAll (trk h H) e
 refine ⟨e',?_⟩
 cases q:H b with
 | none=>rfl
 | some x =>
  have hm:b∈trk h H:=List.mem_filter.mpr ⟨List.mem_range.mpr (Heap.lt_size e'),by simp [q]⟩
  have z:(hidT h H).get? b=none:=PySem.W.hideAll_none (trk h H) hm
  rw [z] at e;cases e
end L2
namespace L2
open PySem PySem.Spec PyProof.Rows
structure Mod (K:PySem.W.Frag) (mg:Str→Option Value) (base:Heap):Prop where
 kin:K.In base
 glob:base.Ns mainGlobals mg
 blt:∃ mb,base.Ns builtinsNs mb∧∀ x:Str,x≠"__name__"→mb x=bootBuiltins x
 nolimit:base.NoLimit
structure Cx where
 prog:Program
 w:World
 K:PySem.W.Frag
 mg:Str→Option Value
 base:Heap
 A:Around
 N:List Str
 s₀:Shared
 H₀:Hp
 env:Env
 outer:List Env
 stack:List Env
 ex:List Addr
 fn:Str→Bool
 calm:Bool
 pn:List (Addr×Obj)
 xe:Value→Shared→Prop
def frs (l:List Env):List Addr:=l.filterMap (·.frame)
abbrev Cx.fs (X:Cx):List Addr:=frs X.outer
def Vis (sc:Scope) (x:Str):Prop:=sc.names.lookup x=some .local∨sc.names.lookup x=some .cell∨sc.names.lookup x=some .free
def Loc (sc:Scope) (x:Str):Prop:=sc.names.lookup x=some .local∨sc.names.lookup x=some .cell
def Look (env:Env) (h:Heap) (m:Str→Option Value) (x:Str) (u:Value):Prop :=
 (env.kindOf x=some .local∧m x=some u)∨((env.kindOf x=some .cell∨env.kindOf x=some .free)∧∃ c,env.cells.lookup x=some c∧h.IsCell c (some u))
structure Cx.Ok (X:Cx):Prop where
 mod:Mod X.K X.mg X.base
 kind:X.env.scope.kind=.function
 glob:X.env.globals=mainGlobals
 blt:X.env.builtins=builtinsNs
 above:X.s₀.heap.objs.size≤X.env.locals
 inj:∀ x y c,X.env.cells.lookup x=some c→X.env.cells.lookup y=some c→x=y
 has:∀ x,(X.env.kindOf x=some .cell∨X.env.kindOf x=some .free)→∃ c,X.env.cells.lookup x=some c
 cab:∀ x c,X.fn x=true→X.env.cells.lookup x=some c→X.s₀.heap.objs.size≤c
 hd:X.calm=true→X.A.handled=none
 frames:X.A.frames=some X.stack
 stk:X.stack=X.outer∨(X.stack=X.env :: X.outer∧X.env.frame=some X.env.locals)
 exf:∀ b∈X.ex,b≠X.env.locals∧∀ x c,X.env.cells.lookup x=some c→c≠b
 bs:∀ b o,X.base.get? b=some o→X.s₀.heap.get? b=some o∧X.H₀ b=none
 bsz:X.base.objs.size≤X.s₀.heap.objs.size
 noex:∀ b o,X.base.get? b=some o→b∉X.ex
 exfs:∀ b∈X.ex,b∉X.fs
 funs:X.s₀.heap.FunFrames X.base X.outer
 frf:∀ b∈X.fs,X.H₀ b=none
structure Inv (X:Cx) (pins:List (Addr×Obj)) (σ:List (Option V)) (H:Hp) (s:Shared):Prop where
 ok:X.Ok
 os:s.os=X.s₀.os
 bare:AllBare s.gens
 base:Un X.fs X.ex X.H₀ H X.s₀.heap s.heap
 loc:∃ m,s.heap.Ns X.env.locals m∧∀ (i:Nat) (x:Str) (v:V),X.N[i]?=some x→σ[i]?=some (some v)→Vis X.env.scope x→∃ u,RelV v u∧Look X.env s.heap m x u
 cell:∀ x c,X.env.cells.lookup x=some c→∃ v,s.heap.IsCell c v
 free:H X.env.locals=none
 freeC:∀ x c,X.env.cells.lookup x=some c→H c=none
 pin:∀ p∈X.pn++pins,s.heap.get? p.1=some p.2∧H p.1=none∧p.1≠X.env.locals∧p.1∉X.fs∧∀ v,p.2.data≠.cell v
 hok:HOk X.prog X.w H s.heap
 len:σ.length=X.N.length
section
variable {X:Cx} {pins:List (Addr×Obj)} {σ:List (Option V)} {H H':Hp} {s:Shared} {h':Heap}
theorem Cx.Ok.nofr (ok:X.Ok) {b:Addr} {o:Obj} (e:X.base.get? b=some o):b∉X.fs:=fun hb=>by
 have:=(ok.funs.mem hb).1
 rw [e] at this;cases this
theorem Inv.bs (I:Inv X pins σ H s):∀ b o,X.base.get? b=some o→s.heap.get? b=some o∧H b=none:=fun b o e =>
 ⟨I.base.keep b o (I.ok.bs b o e).1 (I.ok.bs b o e).2 (I.ok.nofr e) (I.ok.noex b o e),I.base.free b o (I.ok.bs b o e).1 (I.ok.bs b o e).2 (I.ok.noex b o e)⟩
theorem Inv.bk (I:Inv X pins σ H s):∀ b o,X.base.get? b=some o→s.heap.get? b=some o:=fun b o e=>(I.bs b o e).1
theorem Inv.mod (I:Inv X pins σ H s):Mod X.K X.mg X.base:=I.ok.mod
theorem Inv.kIn (I:Inv X pins σ H s):X.K.In s.heap:=I.ok.mod.kin.keeps I.bk
theorem Inv.lt (I:Inv X pins σ H s):X.env.locals < s.heap.objs.size:=let ⟨_,hn,_⟩:=I.loc;hn.lt
theorem Inv.sz (I:Inv X pins σ H s):X.s₀.heap.objs.size≤s.heap.objs.size:=Nat.le_trans I.ok.above (Nat.le_of_lt I.lt)
theorem Inv.nofs (I:Inv X pins σ H s) {a:Addr} (h:s.heap.objs.size≤a):a∉X.fs:=fun hb=>by
 obtain ⟨_,o,ho,_⟩:=I.ok.funs.mem hb
 exact absurd (Nat.lt_of_lt_of_le (Heap.lt_size ho) (Nat.le_trans I.sz h)) (Nat.lt_irrefl _)
theorem Inv.cne (I:Inv X pins σ H s):∀ x c,X.env.cells.lookup x=some c→c≠X.env.locals:=fun x c e z=>by
 obtain ⟨v,o,ho,hd⟩:=I.cell x c e
 obtain ⟨m,⟨o',es,ep,ho',hd',_⟩,_⟩:=I.loc
 rw [z,ho'] at ho;cases ho;rw [hd'] at hd;cases hd
theorem Inv.funs (I:Inv X pins σ H s):s.heap.FunFrames X.base X.outer:=by
 have all:∀ (l:List Env),(∀ b∈frs l,b∈X.fs)→X.s₀.heap.FunFrames X.base l→s.heap.FunFrames X.base l:=by
  intro l
  induction l with
  | nil=>intro _ _;trivial
  | cons env r ih =>
   intro hs hl
   obtain ⟨hk,⟨L,o,hf,hn,ho,hd⟩,hr⟩:=hl
   have hL:L∈X.fs:=hs L (by unfold frs;rw [List.filterMap_cons,hf];exact List.mem_cons_self)
   obtain ⟨sl,e⟩:=I.base.slot L o ho (I.ok.frf L hL) hL fun z=>I.ok.exfs L z hL
   exact ⟨hk,⟨L,_,hf,hn,e,hd⟩,ih (fun b hb=>hs b (by unfold frs;rw [List.filterMap_cons,hf];exact List.mem_cons_of_mem _ hb)) hr⟩
 exact all X.outer (fun _ hb=>hb) I.ok.funs
theorem Inv.stack (I:Inv X pins σ H s):s.heap.FunFrames X.base X.stack:=by
 rcases I.ok.stk with e | ⟨e,hf⟩
 ·rw [e];exact I.funs
 ·rw [e]
  obtain ⟨m,hn,_⟩:=I.loc
  refine .cons (by rw [I.ok.kind];decide) hf hn ?_ I.funs
  exact Heap.get?_none_of_le (Nat.le_trans I.ok.bsz I.ok.above)
theorem Inv.stkSub (I:Inv X pins σ H s):∀ b∈frs X.stack,b∈X.env.locals :: X.fs:=fun b hb=>by
 rcases I.ok.stk with e | ⟨e,hf⟩
 ·rw [e] at hb;exact List.mem_cons_of_mem _ hb
 ·rw [e] at hb
  unfold frs at hb
  rw [List.filterMap_cons,hf] at hb
  exact hb
theorem Inv.stkFree (I:Inv X pins σ H s):∀ b∈frs X.stack,H b=none:=fun b hb=>by
 rcases List.mem_cons.mp (I.stkSub b hb) with e | hb
 ·rw [e];exact I.free
 ·obtain ⟨_,o,ho,_⟩:=I.ok.funs.mem hb
  exact I.base.free b o ho (I.ok.frf b hb) fun z=>I.ok.exfs b z hb
theorem Inv.step {g':Array GenState} {t':Nat} {d':Drawn} {ch:List Addr} (I:Inv X pins σ H s)
  (hch:∀ b∈ch,(b∈X.ex∨X.s₀.heap.objs.size≤b)∧b≠X.env.locals∧(∀ x c,X.env.cells.lookup x=some c→c≠b)∧∀ p∈X.pn++pins,p.1≠b)
  (keep:∀ b o,b≠X.env.locals→b∉X.fs→b∉ch→s.heap.get? b=some o→H b=none→h'.get? b=some o)
  (slot:∀ b o,b≠X.env.locals→b∈X.fs→b∉ch→s.heap.get? b=some o→H b=none→∃ sl,h'.get? b=some { o with slots:=sl }) (free:∀ b o,b∉ch→s.heap.get? b=some o→H b=none→H' b=none)
  (there:∀ b o,b∉ch→s.heap.get? b=some o→∃ o',h'.get? b=some o')
  (tups:∀ b xs,H b=some (.tup xs)→H' b=some (.tup xs)) (frzs:∀ b o u,H b=some (.frz o u)→H' b=some (.frz o u)) (tbls:∀ b ps,H b=some (.tbl ps)→∃ more,H' b=some (.tbl (ps++more)))
  (ns:∀ m,s.heap.Ns X.env.locals m→h'.Ns X.env.locals m) (hok:HOk X.prog X.w H' h') (hg:AllBare g') :
  Inv X pins σ H' { s with heap:=h',gens:=g',drawn:=d',toks:=t' }:=by
 have neL:∀ b o,X.s₀.heap.get? b=some o→b≠X.env.locals:=fun b o e=>Nat.ne_of_lt (Nat.lt_of_lt_of_le (Heap.lt_size e) I.ok.above)
 have neC:∀ b o,X.s₀.heap.get? b=some o→b∉X.ex→b∉ch:=fun b o e hx hb=>by
  rcases (hch b hb).1 with z | z
  ·exact hx z
  ·exact absurd (Nat.lt_of_lt_of_le (Heap.lt_size e) z) (Nat.lt_irrefl _)
 have cellK:∀ x c,X.env.cells.lookup x=some c→∀ v,s.heap.IsCell c v→h'.IsCell c v:=fun x c e v ⟨o,ho,hd⟩=>by
  have nch:c∉ch:=fun z=>(hch c z).2.2.1 x c e rfl
  by_cases hc:c∈X.fs
  ·obtain ⟨sl,q⟩:=slot c o (I.cne x c e) hc nch ho (I.freeC x c e)
   exact ⟨_,q,hd⟩
  ·exact ⟨o,keep c o (I.cne x c e) hc nch ho (I.freeC x c e),hd⟩
 refine ⟨I.ok,I.os,hg,⟨fun b o e n hb hx=>?_,fun b o e n hb hx=>?_,fun b o e n hx=>?_,fun b o e hx=>?_,fun b xs e=>tups b xs (I.base.tups b xs e),fun b o xs e=>frzs b o xs (I.base.frzs b o xs e),fun b ps e=>?_⟩,?_,fun x c e=>?_,?_,fun x c e=>?_,fun p hp=>?_,hok,I.len⟩
 ·exact keep b o (neL b o e) hb (neC b o e hx) (I.base.keep b o e n hb hx) (I.base.free b o e n hx)
 ·obtain ⟨sl,e1⟩:=I.base.slot b o e n hb hx
  obtain ⟨sl',e2⟩:=slot b _ (neL b o e) hb (neC b o e hx) e1 (I.base.free b o e n hx)
  exact ⟨sl',e2⟩
 ·obtain ⟨o',e1⟩:=I.base.there b o e hx
  exact free b o' (neC b o e hx) e1 (I.base.free b o e n hx)
 ·obtain ⟨o',e1⟩:=I.base.there b o e hx
  exact there b o' (neC b o e hx) e1
 ·obtain ⟨m1,e1⟩:=I.base.tbls b ps e
  obtain ⟨m2,e2⟩:=tbls b _ e1
  exact ⟨m1++m2,by rw [e2,Array.append_assoc]⟩
 ·obtain ⟨m,hn,hl⟩:=I.loc
  refine ⟨m,ns m hn,fun i x v e1 e2 e3=>?_⟩
  obtain ⟨u,r,l⟩:=hl i x v e1 e2 e3
  refine ⟨u,r,?_⟩
  rcases l with l | ⟨k,c,e,z⟩
  ·exact .inl l
  ·exact .inr ⟨k,c,e,cellK x c e _ z⟩
 ·obtain ⟨v,z⟩:=I.cell x c e
  exact ⟨v,cellK x c e v z⟩
 ·obtain ⟨m,⟨o,_,_,ho,_⟩,_⟩:=I.loc
  exact free _ o (fun z=>(hch _ z).2.1 rfl) ho I.free
 ·obtain ⟨v,o,ho,hd⟩:=I.cell x c e
  exact free c o (fun z=>(hch c z).2.2.1 x c e rfl) ho (I.freeC x c e)
 ·obtain ⟨e,n,ne,nf,d⟩:=I.pin p hp
  have nch:p.1∉ch:=fun z=>(hch p.1 z).2.2.2 p hp rfl
  exact ⟨keep p.1 p.2 ne nf nch e n,free p.1 p.2 nch e n,ne,nf,d⟩
theorem Inv.un {t':Nat} (I:Inv X pins σ H s) (u:Un X.fs [] H H' s.heap h') (hok:HOk X.prog X.w H' h'):Inv X pins σ H' { s with heap:=h',toks:=t' }:=by
 obtain ⟨m,⟨o,es,ep,ho,r⟩,_⟩:=id I.loc
 obtain ⟨sl,hL⟩:=u.any ho I.free (by simp)
 exact I.step (g':=s.gens) (d':=s.drawn) (ch:=[]) (fun _ z=>nomatch z) (fun b o _ hb _ e n=>u.keep b o e n hb (by simp)) (fun b o _ hb _ e n=>u.slot b o e n hb (by simp)) (fun b o _ e n=>u.free b o e n (by simp)) (fun b o _ e=>u.there b o e (by simp)) u.tups u.frzs u.tbls (fun m' hm=>by
  obtain ⟨o',es',ep',ho',r'⟩:=hm
  rw [ho] at ho';cases ho'
  exact ⟨_,es',ep',hL,r'⟩) hok I.bare
theorem Inv.call {g':Array GenState} {t':Nat} {d':Drawn} {ch:List Addr} (I:Inv X pins σ H s) (u:Un (frs X.stack) ch H H' s.heap h') (hok:HOk X.prog X.w H' h') (hg:AllBare g')
  (hch:∀ b∈ch,(b∈X.ex∨X.s₀.heap.objs.size≤b)∧b≠X.env.locals∧(∀ x c,X.env.cells.lookup x=some c→c≠b)∧∀ p∈X.pn++pins,p.1≠b) :
  Inv X pins σ H' { s with heap:=h',gens:=g',drawn:=d',toks:=t' }:=by
 obtain ⟨m,⟨o,es,ep,ho,r⟩,_⟩:=id I.loc
 obtain ⟨sl,hL⟩:=u.any ho I.free fun z=>(hch _ z).2.1 rfl
 exact I.step (ch:=ch) hch (fun b o hL hb hc e n=>u.keep b o e n (fun z=>(List.mem_cons.mp (I.stkSub b z)).elim hL hb) hc) (fun b o _ _ hc e n=>u.any e n hc) (fun b o hc e n=>u.free b o e n hc) (fun b o hc e=>u.there b o e hc) u.tups u.frzs u.tbls (fun m' hm=>by
  obtain ⟨o',es',ep',ho',r'⟩:=hm
  rw [ho] at ho';cases ho'
  exact ⟨_,es',ep',hL,r'⟩) hok hg
theorem Inv.turned {t':Nat} {it:Addr} (I:Inv X pins σ H s) (k:∀ b o,b≠it→s.heap.get? b=some o→h'.get? b=some o) (hn:H it=none) (hL:it≠X.env.locals)
  (h1:it∈X.ex∨X.s₀.heap.objs.size≤it) (h2:∀ x c,X.env.cells.lookup x=some c→c≠it) (h3:∀ p∈X.pn++pins,p.1≠it):Inv X pins σ H { s with heap:=h',toks:=t' }:=by
 have nit:∀ b u,H b=some u→b≠it:=fun b u e z=>by rw [z,hn] at e;cases e
 refine I.step (g':=s.gens) (d':=s.drawn) (ch:=[it]) (fun b hb=>?_) (fun b o _ _ hc e _=>k b o (fun z=>hc (by simp [z])) e) (fun b o _ _ hc e _=>⟨o.slots,k b o (fun z=>hc (by simp [z])) e⟩) (fun _ _ _ _ n=>n)
  (fun b o hc e=>⟨o,k b o (fun z=>hc (by simp [z])) e⟩) (fun _ _ e=>e) (fun _ _ _ e=>e) (fun b ps e=>⟨#[],by rw [e];simp⟩) (fun m hm=>?_) (fun b u e=>?_) I.bare
 ·have e:b=it:=by simpa using hb
  subst e
  exact ⟨h1,hL,h2,h3⟩
 ·obtain ⟨o,es,ep,ho,r⟩:=hm
  exact ⟨o,es,ep,k _ o (Ne.symm hL) ho,r⟩
 ·refine (I.hok b u e).stay (fun c v hc q=>k c v ?_ q) (fun _ q=>q) fun _ _ q=>q
  rcases hc with z | z
  ·rw [z];exact nit b u e
  ·exact nit c _ z
theorem Inv.tok (I:Inv X pins σ H s) (t:Nat):Inv X pins σ H { s with toks:=t }:=I.un (h':=s.heap) (t':=t) Un.refl I.hok
theorem Inv.kept {t':Nat} (I:Inv X pins σ H s) (k:∀ b u,s.heap.get? b=some u→h'.get? b=some u):Inv X pins σ H { s with heap:=h',toks:=t' }:=I.un (Un.kept k) (I.hok.kept k)
theorem Inv.laid {a:Addr} {o:HO} {t':Nat} (I:Inv X pins σ H s) (k:∀ b u,s.heap.get? b=some u→h'.get? b=some u) (hp:s.heap.objs.size≤a) (new:ObjOk X.prog X.w (upd H a o) h' a o) :
  Inv X pins σ (upd H a o) { s with heap:=h',toks:=t' }:=I.un (Un.laid k hp (I.hok.fresh hp)) (I.hok.laid k hp new)
theorem Inv.write {x e:Addr} {o:HO} {t':Nat} (I:Inv X pins σ H s) (mu:Mut (H x)) (he:e=x∨H e=some (.own x)) (k:∀ b u,b≠e→s.heap.get? b=some u→h'.get? b=some u) (heo:∃ u,h'.get? e=some u)
  (new:ObjOk X.prog X.w (upd H x o) h' x o):Inv X pins σ (upd H x o) { s with heap:=h',toks:=t' }:=I.un (Un.write mu he k heo) (I.hok.write mu he k heo new)
theorem Inv.weak {σ':List (Option V)} (I:Inv X pins σ H s) (hl:σ'.length=σ.length) (w:∀ (i:Nat) v,σ'[i]?=some (some v)→σ[i]?=some (some v)):Inv X pins σ' H s :=
 ⟨I.ok,I.os,I.bare,I.base,let ⟨m,hn,hl'⟩:=I.loc;⟨m,hn,fun i x v e1 e2 e3=>hl' i x v e1 (w i v e2) e3⟩,I.cell,I.free,I.freeC,I.pin,I.hok,hl.trans I.len⟩
theorem Inv.pins_of {pins':List (Addr×Obj)} (I:Inv X pins σ H s) (h:∀ p∈pins',s.heap.get? p.1=some p.2∧H p.1=none∧p.1≠X.env.locals∧p.1∉X.fs∧∀ v,p.2.data≠.cell v):Inv X pins' σ H s :=
 ⟨I.ok,I.os,I.bare,I.base,I.loc,I.cell,I.free,I.freeC,fun p hp=>(List.mem_append.mp hp).elim (fun z=>I.pin p (List.mem_append_left _ z)) (h p),I.hok,I.len⟩
theorem nodup_ix {N:List Str} (hN:N.Nodup) {i j:Nat} {x:Str} (a:N[i]?=some x) (b:N[j]?=some x):i=j:=by
 obtain ⟨h1,e1⟩:=List.getElem?_eq_some_iff.mp a
 obtain ⟨h2,e2⟩:=List.getElem?_eq_some_iff.mp b
 exact (List.getElem_inj hN).mp (e1.trans e2.symm)
theorem store_ok2 {M:Model} {A:Around} {E:Value→Shared→Prop} {i:Nat} {x:Str} {v:V} {u:Value} {Q:Unit→Shared→Prop} (I:Inv X pins σ H s) (hN:X.N.Nodup) (hi:X.N[i]?=some x) (hx:Loc X.env.scope x) (r:RelV v u)
  (h:∀ s',Inv X pins (σ.set i (some v)) H s'→(∃ a,Heap.SameBut a s.heap s'.heap∧(a=X.env.locals∨X.env.cells.lookup x=some a))→Q () s') (hf:X.fn x=true∨X.env.scope.names.lookup x=some .local:=by first | exact .inl rfl | exact .inr rfl | assumption):wpAny M A (storeName X.env x u) Q E s:=by
 obtain ⟨m,hn,hl⟩:=id I.loc
 have hcls:(X.env.scope.kind == .class || (X.env.scope.kind == .module && X.env.locals != X.env.globals))=false:=by rw [I.ok.kind];rfl
 have hiσ:i < σ.length:=by rw [I.len];exact (List.getElem?_eq_some_iff.mp hi).1
 have cne:=I.cne
 have tracked:∀ {a:Addr} {h':Heap},(∃ o,s.heap.get? a=some o∧H a=none)→Heap.SameBut a s.heap h'→HOk X.prog X.w H h':=fun {a h'} ha hs b ob e=>by
  obtain ⟨_,_,hfree⟩:=ha
  refine (I.hok b ob e).stay (fun c w' hc q=>(hs.2 c ?_).trans q) (fun _ q=>q) fun _ _ q=>q
  rintro rfl
  rcases hc with rfl | hc
  ·rw [hfree] at e;cases e
  ·rw [hfree] at hc;cases hc
 rcases hx with hk | hk
 ·refine wpAny_storeName_local hk hn (fun h' hn' hs=>?_) hcls
  obtain ⟨oL,_,_,hoL,_⟩:=id hn
  refine h _ ⟨I.ok,I.os,I.bare,⟨fun b o e n hb hx=>?_,fun b o e n hb hx=>?_,I.base.free,fun b o e hx=>?_,I.base.tups,I.base.frzs,I.base.tbls⟩,⟨_,hn',fun j y v' e1 e2 e3=>?_⟩,fun y c e=>?_,I.free,I.freeC,fun p hp=>?_,tracked ⟨oL,hoL,I.free⟩ hs,by simpa using I.len⟩ ⟨_,hs,.inl rfl⟩
  ·exact (hs.2 b (Nat.ne_of_lt (Nat.lt_of_lt_of_le (Heap.lt_size e) I.ok.above))).trans (I.base.keep b o e n hb hx)
  ·obtain ⟨sl,e1⟩:=I.base.slot b o e n hb hx
   exact ⟨sl,(hs.2 b (Nat.ne_of_lt (Nat.lt_of_lt_of_le (Heap.lt_size e) I.ok.above))).trans e1⟩
  ·obtain ⟨o',e1⟩:=I.base.there b o e hx
   exact ⟨o',(hs.2 b (Nat.ne_of_lt (Nat.lt_of_lt_of_le (Heap.lt_size e) I.ok.above))).trans e1⟩
  ·by_cases hj:j=i
   ·subst hj
    rw [hi] at e1;cases e1
    rw [List.getElem?_set_self hiσ] at e2
    cases e2
    exact ⟨u,r,.inl ⟨hk,by simp⟩⟩
   ·rw [List.getElem?_set_ne (Ne.symm hj)] at e2
    obtain ⟨u',r',q⟩:=hl j y v' e1 e2 e3
    refine ⟨u',r',?_⟩
    rcases q with ⟨k,e⟩ | ⟨k,c,e,z⟩
    ·refine .inl ⟨k,?_⟩
     have:y≠x:=fun e=>hj (nodup_ix hN e1 (e ▸ hi))
     simp [this,e]
    ·exact .inr ⟨k,c,e,z.sameBut hs (cne y c e)⟩
  ·obtain ⟨w',z⟩:=I.cell y c e
   exact ⟨w',z.sameBut hs (cne y c e)⟩
  ·obtain ⟨e,n,ne,nf,d⟩:=I.pin p hp
   exact ⟨(hs.2 p.1 ne).trans e,n,ne,nf,d⟩
 ·have hfn:X.fn x=true:=by
   rcases hf with z | z
   ·exact z
   ·rw [z] at hk;cases hk
  obtain ⟨c,hc⟩:=I.ok.has x (.inl hk)
  obtain ⟨w',z⟩:=I.cell x c hc
  refine wpAny_storeName_cell I.ok.kind hk hc z (fun h' hc' hs=>?_)
  obtain ⟨oc,hoc,hocd⟩:=id z
  refine h { s with heap:=h' } ⟨I.ok,I.os,I.bare,⟨fun b o e n hb hx=>?_,fun b o e n hb hx=>?_,I.base.free,fun b o e hx=>?_,I.base.tups,I.base.frzs,I.base.tbls⟩,⟨m,hn.sameBut hs (Ne.symm (cne x c hc)),fun j y v' e1 e2 e3=>?_⟩,fun y c' e=>?_,I.free,I.freeC,fun p hp=>?_,tracked ⟨oc,hoc,I.freeC x c hc⟩ hs,by simpa using I.len⟩ ⟨c,hs,.inr hc⟩
  ·exact (hs.2 b (Nat.ne_of_lt (Nat.lt_of_lt_of_le (Heap.lt_size e) (I.ok.cab x c hfn hc)))).trans (I.base.keep b o e n hb hx)
  ·obtain ⟨sl,e1⟩:=I.base.slot b o e n hb hx
   exact ⟨sl,(hs.2 b (Nat.ne_of_lt (Nat.lt_of_lt_of_le (Heap.lt_size e) (I.ok.cab x c hfn hc)))).trans e1⟩
  ·obtain ⟨o',e1⟩:=I.base.there b o e hx
   exact ⟨o',(hs.2 b (Nat.ne_of_lt (Nat.lt_of_lt_of_le (Heap.lt_size e) (I.ok.cab x c hfn hc)))).trans e1⟩
  ·by_cases hj:j=i
   ·subst hj
    rw [hi] at e1;cases e1
    rw [List.getElem?_set_self hiσ] at e2
    cases e2
    exact ⟨u,r,.inr ⟨.inl hk,c,hc,hc'⟩⟩
   ·rw [List.getElem?_set_ne (Ne.symm hj)] at e2
    obtain ⟨u',r',q⟩:=hl j y v' e1 e2 e3
    refine ⟨u',r',?_⟩
    rcases q with q | ⟨k,c',e,z'⟩
    ·exact .inl q
    ·refine .inr ⟨k,c',e,z'.sameBut hs ?_⟩
     rintro rfl
     exact hj (nodup_ix hN e1 (I.ok.inj _ _ _ e hc ▸ hi))
  ·by_cases hcc:c'=c
   ·subst hcc;exact ⟨_,hc'⟩
   ·obtain ⟨w2,z2⟩:=I.cell y c' e
    exact ⟨w2,z2.sameBut hs hcc⟩
  ·obtain ⟨e,n,ne,nf,d⟩:=I.pin p hp
   refine ⟨(hs.2 p.1 ?_).trans e,n,ne,nf,d⟩
   intro q
   rw [q,hoc] at e
   have q':oc=p.2:=Option.some.inj e
   exact d w' (by rw [← q'];exact hocd)
theorem store_ok {M:Model} {A:Around} {E:Value→Shared→Prop} {i:Nat} {x:Str} {v:V} {u:Value} {Q:Unit→Shared→Prop} (I:Inv X pins σ H s) (hN:X.N.Nodup) (hi:X.N[i]?=some x) (hx:Loc X.env.scope x) (r:RelV v u)
  (h:∀ s',Inv X pins (σ.set i (some v)) H s'→Q () s') (hf:X.fn x=true∨X.env.scope.names.lookup x=some .local:=by first | exact .inl rfl | exact .inr rfl | assumption):wpAny M A (storeName X.env x u) Q E s :=
 store_ok2 I hN hi hx r (fun s' I' _=>h s' I') hf
theorem Inv.call' {s':Shared} {ch:List Addr} (I:Inv X pins σ H s) (ho:s'.os=s.os) (u:Un (frs X.stack) ch H H' s.heap s'.heap) (hok:HOk X.prog X.w H' s'.heap) (hg:AllBare s'.gens)
  (hch:∀ b∈ch,(b∈X.ex∨X.s₀.heap.objs.size≤b)∧b≠X.env.locals∧(∀ x c,X.env.cells.lookup x=some c→c≠b)∧∀ p∈X.pn++pins,p.1≠b):Inv X pins σ H' s':=by
 obtain ⟨h',g',d',t',o'⟩:=s'
 have e:o'=s.os:=ho
 subst e
 exact I.call (g':=g') (t':=t') (d':=d') u hok hg hch
end
abbrev XK:=Value→Option Addr→Hp→Prop
abbrev St:=List (Option V)
abbrev VK:=V→Hp→Prop
abbrev TE:=St→Hp→VK→Prop
abbrev TT:=St→Hp→(Bool→Hp→Prop)→Prop
abbrev TA:=St→Hp→(List V→Hp→Prop)→Prop
structure Ends where
 nx:St→Hp→Prop
 rt:VK
 bk:St→Hp→Prop:=fun _ _=>False
 ct:St→Hp→Prop:=fun _ _=>False
abbrev TS:=Ends→St→Hp→Prop
def EP (X:Cx) (pins:List (Addr×Obj)) (σ:St) (Q:VK) (u:Value) (s':Shared):Prop:=∃ v H',Inv X pins σ H' s'∧RelV v u∧Q v H'
def TP (X:Cx) (pins:List (Addr×Obj)) (σ:St) (Q:Bool→Hp→Prop) (b:Bool) (s':Shared):Prop:=∃ H',Inv X pins σ H' s'∧Q b H'
def AP (X:Cx) (pins:List (Addr×Obj)) (σ:St) (Q:List V→Hp→Prop) (us:List Value) (s':Shared):Prop:=∃ vs H',Inv X pins σ H' s'∧Vals vs us∧Q vs H'
def SP (X:Cx) (pins:List (Addr×Obj)) (D:Ends) (f:Flow) (s':Shared):Prop :=
 match f with
 | .next=>∃ σ' H',Inv X pins σ' H' s'∧D.nx σ' H'
 | .brk=>∃ σ' H',Inv X pins σ' H' s'∧D.bk σ' H'
 | .cont=>∃ σ' H',Inv X pins σ' H' s'∧D.ct σ' H'
 | .ret u=>∃ v σ' H',Inv X pins σ' H' s'∧RelV v u∧D.rt v H'
def PE (X:Cx) (e:Expr) (t:TE):Prop :=
 ∀ (pins:List (Addr×Obj)) (s:Shared) (σ:St) (H:Hp) (Q:VK),Inv X pins σ H s→t σ H Q→wpAny (model X.prog X.w) X.A (eval e X.env) (EP X pins σ Q) X.xe s
def PT (X:Cx) (e:Expr) (t:TT):Prop :=
 ∀ (pins:List (Addr×Obj)) (s:Shared) (σ:St) (H:Hp) (Q:Bool→Hp→Prop),Inv X pins σ H s→t σ H Q→wpAny (model X.prog X.w) X.A (isTrue e X.env (eval e X.env)) (TP X pins σ Q) X.xe s
def PW (X:Cx) (e:Expr) (t:TT):Prop :=
 ∀ (whole:Sem Value) (pins:List (Addr×Obj)) (s:Shared) (σ:St) (H:Hp) (Q:Bool→Hp→Prop),Inv X pins σ H s→t σ H Q→wpAny (model X.prog X.w) X.A (isTrue e X.env whole) (TP X pins σ Q) X.xe s
theorem PW.pt {X:Cx} {e:Expr} {t:TT} (h:PW X e t):PT X e t:=h _
def PA (X:Cx) (es:List Expr) (t:TA):Prop :=
 ∀ (pos:Pos) (pins:List (Addr×Obj)) (s:Shared) (σ:St) (H:Hp) (Q:List V→Hp→Prop),Inv X pins σ H s→t σ H Q→wpAny (model X.prog X.w) X.A (spliced (backTo pos (starEach es X.env))) (AP X pins σ Q) X.xe s
def PS (X:Cx) (st:Stmt) (t:TS):Prop :=
 ∀ (pins:List (Addr×Obj)) (s:Shared) (σ:St) (H:Hp) (D:Ends),Inv X pins σ H s→t D σ H→wpAny (model X.prog X.w) X.A (exec st X.env) (SP X pins D) X.xe s
def PSs (X:Cx) (st:List Stmt) (t:TS):Prop :=
 ∀ (pins:List (Addr×Obj)) (s:Shared) (σ:St) (H:Hp) (D:Ends),Inv X pins σ H s→t D σ H→wpAny (model X.prog X.w) X.A (execs st X.env) (SP X pins D) X.xe s
theorem thn {α:Type} {t:Sem α} {Q Q':α→Shared→Prop} {M:Model} {A:Around} {E:Value→Shared→Prop} {s:Shared} (h:wpAny M A t Q E s) (hQ:∀ a s,Q a s→Q' a s):wpAny M A t Q' E s:=wpAny_mono h hQ fun _ _ x=>x
end L2
namespace L2
open PySem PySem.Spec PyProof.Rows
section
variable {X:Cx}
def tVar (i:Nat):TE:=fun σ H Q=>∃ v,σ[i]?=some (some v)∧Q v H
def tC (v:V):TE:=fun _ H Q=>Q v H
theorem pe_var {i:Nat} {x:Str} {pos:Pos} (hN:X.N[i]?=some x) (hv:Vis X.env.scope x) (hd:(x == ("__debug__":Str))=false:=by decide) (hcd:(x == ("__classdict__":Str))=false:=by decide):PE X (.Name x pos) (tVar i):=by
 intro pins s σ H Q I h
 obtain ⟨v,e,h⟩:=h
 obtain ⟨m,hn,hl⟩:=I.loc
 obtain ⟨u,r,l⟩:=hl i x v hN e hv
 have fin:EP X pins σ Q u s:=⟨v,H,I,r,h⟩
 rcases l with ⟨hk,hm⟩ | ⟨hk,c,hc,hcell⟩
 ·exact wpAny_Name (wpAny_loadName_local I.ok.kind hk hn hm fin) hd
 ·rcases hk with hk | hk
  ·exact wpAny_Name (wpAny_loadName_cell I.ok.kind hk hc hcell fin) hd
  ·exact wpAny_Name (wpAny_loadName_free I.ok.kind hk hc hcell fin hcd) hd
theorem pe_int {i j pos}:PE X (.Constant (.int i) j pos) (tC (.int i)):=fun _ _ _ H _ I h=>wpAny_Constant_int ⟨.int i,H,I.tok _,⟨_,rfl⟩,h⟩
theorem pe_bl {b j pos}:PE X (.Constant (.bool b) j pos) (tC (.bl b)):=fun _ _ _ H _ I h=>Constant_bool ⟨.bl b,H,I,rfl,h⟩
theorem pe_non {j pos}:PE X (.Constant .none j pos) (tC .non):=fun _ _ _ H _ I h=>Constant_none ⟨.non,H,I,rfl,h⟩
theorem pe_str {x j pos}:PE X (.Constant (.str x) j pos) (tC (.str x)):=fun _ _ _ H _ I h=>Calls.Constant_str ⟨.str x,H,I.tok _,⟨_,rfl⟩,h⟩
def Gl (X:Cx) (x:Str):Prop:=X.env.kindOf x=some .globalImplicit
theorem ld_glob {E:Value→Shared→Prop} {pins:List (Addr×Obj)} {s:Shared} {σ:St} {H:Hp} {x:Str} {u:Value} {pos:Pos} {Q:Value→Shared→Prop} (I:Inv X pins σ H s) (hg:Gl X x) (hm:X.mg x=some u) (h:Q u s)
  (hd:(x == ("__debug__":Str))=false:=by decide):wpAny (model X.prog X.w) X.A (eval (.Name x pos) X.env) Q E s :=
 Calls.Name_function_global I.ok.kind hg (Calls.loadGlobal_global (by rw [I.ok.glob];exact I.mod.glob.keeps I.bk) hm h) hd
theorem ld_blt {E:Value→Shared→Prop} {pins:List (Addr×Obj)} {s:Shared} {σ:St} {H:Hp} {x:Str} {u:Value} {pos:Pos} {Q:Value→Shared→Prop} (I:Inv X pins σ H s) (hg:Gl X x) (hm:X.mg x=none) (hv:bootBuiltins x=some u) (h:Q u s)
  (hn:x≠"__name__":=by decide) (hd:(x == ("__debug__":Str))=false:=by decide):wpAny (model X.prog X.w) X.A (eval (.Name x pos) X.env) Q E s:=by
 obtain ⟨mb,h1,h2⟩:=I.mod.blt
 exact Calls.Name_function_global I.ok.kind hg (Calls.loadGlobal_builtin (by rw [I.ok.glob];exact I.mod.glob.keeps I.bk) hm (by rw [I.ok.blt];exact h1.keeps I.bk) ((h2 x hn).trans hv) h) hd
theorem pe_glob {x:Str} {v:V} {u:Value} {pos:Pos} (hg:Gl X x) (hm:X.mg x=some u) (r:RelV v u) (hd:(x == ("__debug__":Str))=false:=by decide):PE X (.Name x pos) (tC v) :=
 fun _ _ _ H _ I h=>ld_glob I hg hm ⟨v,H,I,r,h⟩ hd
theorem pe_bltn {x:Str} {v:V} {u:Value} {pos:Pos} (hg:Gl X x) (hm:X.mg x=none) (hv:bootBuiltins x=some u) (r:RelV v u) (hn:x≠"__name__":=by decide) (hd:(x == ("__debug__":Str))=false:=by decide):PE X (.Name x pos) (tC v) :=
 fun _ _ _ H _ I h=>ld_blt I hg hm hv ⟨v,H,I,r,h⟩ hn hd
variable {a b:Expr} {ta tb:TE} {pos:Pos}
def PC (X:Cx) (op:CmpOp) (a b:Expr) (t:TE):Prop :=
 ∀ (pins:List (Addr×Obj)) (s:Shared) (σ:St) (H:Hp) (Q:VK),Inv X pins σ H s→t σ H Q →
  wpAny (model X.prog X.w) X.A (eval a X.env) (fun v s₁=>wpAny (model X.prog X.w) X.A (eval b X.env) (fun u s₂=>wpAny (model X.prog X.w) X.A (compareOp op v u) (EP X pins σ Q) X.xe s₂) X.xe s₁) X.xe s
def tB (t:TE):TT:=fun σ H Q=>t σ H fun x H1=>∃ c,x=.bl c∧Q c H1
theorem pt_cmp {op:CmpOp} {t:TE} (h:PC X op a b t) (h1:behindInMarks op b=false:=by first | exact nobehind _ (by decide) (by decide) | rfl):PT X (.Compare a [op] [b] pos) (tB t):=by
 intro pins s σ H Q I hw
 refine wpAny_isTrue_Compare1 (thn (h pins s σ H _ I hw) fun v s1 h1=>thn h1 fun u s2 h2=>thn h2 fun c s3 ⟨x,H1,I1,r1,q1⟩=>?_) h1
 obtain ⟨d,rfl,q⟩:=q1
 cases r1
 exact wpAny_truthy_bool ⟨H1,I1,q⟩
theorem pt_val {e:Expr} {t:TE} (h:PE X e t) (he:∀ whole,isTrue e X.env whole=(do let v ← whole;standAt e.pos;holding [v] (truthy v)):=by intro _;rfl):PT X e (tB t):=by
 intro pins s σ H Q I hw
 refine isTrue_plain (thn (h pins s σ H _ I hw) fun v s1 ⟨x,H1,I1,r1,q1⟩=>?_) (he _)
 obtain ⟨d,rfl,q⟩:=q1
 cases r1
 exact wpAny_truthy_bool ⟨H1,I1,q⟩
variable {tA tB':TT} {rest:List Expr}
def tAnd (t u:TT):TT:=fun σ H Q=>t σ H fun c H1=>if c=true then u σ H1 Q else Q false H1
def tOr (t u:TT):TT:=fun σ H Q=>t σ H fun c H1=>if c=true then Q true H1 else u σ H1 Q
def tNot (t:TT):TT:=fun σ H Q=>t σ H fun c H1=>Q (!c) H1
theorem pw_and1 (ha:PT X a tA):PW X (.BoolOp .And [a] pos) tA:=by
 intro wh pins s σ H Q I h
 refine isTrue_and (thn (ha pins s σ H Q I h) fun c s1 e=>?_)
 cases c with
 | true=>exact isTrue_and_nil e
 | false=>exact e
theorem pw_or1 (ha:PT X a tA):PW X (.BoolOp .Or [a] pos) tA:=by
 intro wh pins s σ H Q I h
 refine isTrue_or (thn (ha pins s σ H Q I h) fun c s1 e=>?_)
 cases c with
 | false=>exact isTrue_or_nil e
 | true=>exact e
theorem pw_and (ha:PT X a tA) (hb:PW X (.BoolOp .And (b :: rest) pos) tB'):PW X (.BoolOp .And (a :: b :: rest) pos) (tAnd tA tB'):=by
 intro wh pins s σ H Q I h
 refine isTrue_and (thn (ha pins s σ H _ I h) fun c s1 ⟨H1,I1,q1⟩=>?_)
 cases c with
 | true=>exact hb wh pins s1 σ H1 Q I1 q1
 | false=>exact ⟨H1,I1,q1⟩
theorem pw_or (ha:PT X a tA) (hb:PW X (.BoolOp .Or (b :: rest) pos) tB'):PW X (.BoolOp .Or (a :: b :: rest) pos) (tOr tA tB'):=by
 intro wh pins s σ H Q I h
 refine isTrue_or (thn (ha pins s σ H _ I h) fun c s1 ⟨H1,I1,q1⟩=>?_)
 cases c with
 | true=>exact ⟨H1,I1,q1⟩
 | false=>exact hb wh pins s1 σ H1 Q I1 q1
theorem pt_not (ha:PT X a tA):PT X (.UnaryOp .Not a pos) (tNot tA):=by
 intro pins s σ H Q I h
 exact isTrue_not (ha pins s σ H (fun c H1=>Q (!c) H1) I h)
def tOrV (ta tb:TE):TE:=fun σ H Q=>ta σ H fun x H1=>∃ c,x=.bl c∧if c=true then Q (.bl true) H1 else tb σ H1 Q
theorem pe_one {op} {t:TE} (h:PE X a t):PE X (.BoolOp op [a] pos) t:=fun pins s σ H Q I hw=>BoolOp_one (h pins s σ H Q I hw)
theorem pe_or (ha:PE X a ta) (hb:PE X (.BoolOp .Or (b :: rest) pos) tb):PE X (.BoolOp .Or (a :: b :: rest) pos) (tOrV ta tb):=by
 intro pins s σ H Q I h
 refine BoolOp_or (thn (ha pins s σ H _ I h) fun v s1 ⟨x,H1,I1,r1,q1⟩=>?_)
 obtain ⟨c,rfl,q1⟩:=q1
 cases r1
 refine wpAny_truthy_bool ?_
 cases c with
 | false=>exact hb pins s1 σ H1 Q I1 q1
 | true=>exact ⟨.bl true,H1,I1,rfl,q1⟩
def tIf (t:TT) (ta tb:TE):TE:=fun σ H Q=>t σ H fun c H1=>if c=true then ta σ H1 Q else tb σ H1 Q
theorem pe_ifExp {c:Expr} (hc:PT X c tA) (ha:PE X a ta) (hb:PE X b tb):PE X (.IfExp c a b pos) (tIf tA ta tb):=by
 intro pins s σ H Q I h
 refine wpAny_IfExp (thn (hc pins s σ H _ I h) fun d s1 ⟨H1,I1,q1⟩=>?_)
 cases d with
 | true=>exact ha pins s1 σ H1 Q I1 q1
 | false=>exact hb pins s1 σ H1 Q I1 q1
end
end L2
namespace L2
open PySem PySem.Spec PyProof.Rows
def SqL (K:PySem.W.Frag) (H:Hp) (a:Addr) (xs:List V):Prop :=
 Rd H a (.lst xs) ∨
  ∃ (o:Obj) (its:Array Value) (n:Nat),K.lookup a=some o∧o.cls=.type "list"∧o.dict=none∧o.data=.seq its n∧its.size≤sizeLine∧Vals xs its.toList
def SqT (K:PySem.W.Frag) (H:Hp) (a:Addr) (xs:List V):Prop :=
 Rd H a (.tup xs) ∨
  ∃ (o:Obj) (its:Array Value) (n:Nat),K.lookup a=some o∧o.cls=.type "tuple"∧o.data=.seq its n∧its.size≤sizeLine∧Vals xs its.toList
def absV:Value→Option V
 | .none=>some .non
 | .bool b=>some (.bl b)
 | .int i _=>some (.int i)
 | .str x _=>some (.str x)
 | .bytes b _=>some (.byt b)
 | .float b _=>some (.flt b)
 | .ref a=>some (.ref a)
 | .type n=>some (.ty n)
 | _=>none
theorem RelV.abs {x:V} {u:Value} (r:RelV x u):absV u=some x:=by
 cases x with
 | non=>cases r;rfl
 | bl _=>cases r;rfl
 | int _=>obtain ⟨t,rfl⟩:=r;rfl
 | str _=>obtain ⟨t,rfl⟩:=r;rfl
 | byt _=>obtain ⟨t,rfl⟩:=r;rfl
 | flt _=>obtain ⟨t,rfl⟩:=r;rfl
 | ref _=>cases r;rfl
 | ty _=>cases r;rfl
theorem RelV.inj {x y:V} {u:Value} (r:RelV x u) (q:RelV y u):x=y:=Option.some.inj (r.abs.symm.trans q.abs)
theorem Vals.inj:∀ {xs ys:List V} {us:List Value},Vals xs us→Vals ys us→xs=ys
 | _,_,_,.nil,.nil=>rfl
 | _,_,_,.cons r t,.cons r' t'=>by rw [r.inj r',Vals.inj t t']
section
variable {X:Cx} {pins:List (Addr×Obj)} {σ:St} {H:Hp} {s:Shared} {a:Addr} {xs ys:List V}
theorem SqL.of {K:PySem.W.Frag} (h:H a=some (.lst xs)):SqL K H a xs:=.inl (.inl h)
theorem SqT.of {K:PySem.W.Frag} (h:H a=some (.tup xs)):SqT K H a xs:=.inl (.inl h)
theorem Inv.list (I:Inv X pins σ H s) (h:SqL X.K H a xs):∃ its:List Value,Vals xs its∧PlainL s.heap a its.toArray∧xs.length≤sizeLine:=by
 rcases h with h | ⟨o,its,n,hk,hc,hd,hs,hz,r⟩
 ·obtain ⟨z,its,n,r,e⟩:=h.ok I.hok
  exact ⟨its,r,⟨_,n,e,rfl,rfl,rfl⟩,z⟩
 ·refine ⟨its.toList,r,⟨o,n,I.kIn a o hk,hc,hd,by simpa using hs⟩,?_⟩
  have e:=r.length
  simp only [Array.length_toList] at e
  omega
theorem Inv.tuple (I:Inv X pins σ H s) (h:SqT X.K H a xs):∃ its:List Value,Vals xs its∧IsTup s.heap a its.toArray∧xs.length≤sizeLine:=by
 rcases h with h | ⟨o,its,n,hk,hc,hs,hz,r⟩
 ·obtain ⟨z,its,r,p⟩:=h.ok I.hok
  exact ⟨its,r,p,z⟩
 ·refine ⟨its.toList,r,⟨o,I.kIn a o hk,hc,n,by simpa using hs⟩,?_⟩
  have e:=r.length
  simp only [Array.length_toList] at e
  omega
theorem Inv.list_inj (I:Inv X pins σ H s) (h:SqL X.K H a xs) (h':SqL X.K H a ys):xs=ys:=by
 obtain ⟨its,r,⟨o,n,e,_,_,d⟩,_⟩:=I.list h
 obtain ⟨its',r',⟨o',n',e',_,_,d'⟩,_⟩:=I.list h'
 rw [e] at e';cases e'
 rw [d] at d'
 injection d' with d1 _
 have:its=its':=by simpa using congrArg Array.toList d1
 subst this
 exact r.inj r'
end
abbrev Cx.wish (X:Cx) (E:Value→Shared→Prop):Cx:={ X with xe:=E }
abbrev Cx.nox (X:Cx):Cx:=X.wish fun _ _=>False
theorem Cx.Ok.wish {X:Cx} (ok:X.Ok) (E:Value→Shared→Prop):(X.wish E).Ok :=
 ⟨ok.mod,ok.kind,ok.glob,ok.blt,ok.above,ok.inj,ok.has,ok.cab,ok.hd,ok.frames,ok.stk,ok.exf,ok.bs,ok.bsz,ok.noex,ok.exfs,ok.funs,ok.frf⟩
theorem Cx.Ok.unwish {X:Cx} {E:Value→Shared→Prop} (ok:(X.wish E).Ok):X.Ok :=
 ⟨ok.mod,ok.kind,ok.glob,ok.blt,ok.above,ok.inj,ok.has,ok.cab,ok.hd,ok.frames,ok.stk,ok.exf,ok.bs,ok.bsz,ok.noex,ok.exfs,ok.funs,ok.frf⟩
section
variable {X:Cx} {pins:List (Addr×Obj)} {σ:St} {H:Hp} {s:Shared} {E:Value→Shared→Prop}
theorem Inv.wish (I:Inv X pins σ H s) (E:Value→Shared→Prop):Inv (X.wish E) pins σ H s:=⟨I.ok.wish E,I.os,I.bare,I.base,I.loc,I.cell,I.free,I.freeC,I.pin,I.hok,I.len⟩
theorem Inv.unwish (I:Inv (X.wish E) pins σ H s):Inv X pins σ H s:=⟨I.ok.unwish,I.os,I.bare,I.base,I.loc,I.cell,I.free,I.freeC,I.pin,I.hok,I.len⟩
theorem SP.unwish {D:Ends} {f:Flow} {s':Shared} (h:SP (X.wish E) pins D f s'):SP X pins D f s':=by
 cases f with
 | next=>obtain ⟨σ',H',I,q⟩:=h;exact ⟨σ',H',I.unwish,q⟩
 | brk=>obtain ⟨σ',H',I,q⟩:=h;exact ⟨σ',H',I.unwish,q⟩
 | cont=>obtain ⟨σ',H',I,q⟩:=h;exact ⟨σ',H',I.unwish,q⟩
 | ret u=>obtain ⟨v,σ',H',I,r,q⟩:=h;exact ⟨v,σ',H',I.unwish,r,q⟩
theorem PSs.nox {st:List Stmt} {t:TS} (h:PSs X.nox st t):PSs X st t:=fun pins s σ H D I hw =>
 wpAny_mono (h pins s σ H D (I.wish _) hw) (fun _ _ q=>q.unwish) fun _ _ z=>False.elim z
end
section
variable {X:Cx} {st:Stmt} {rest:List Stmt} {t u:TS} {e:Expr} {te:TE} {pos:Pos}
def tNext:TS:=fun D σ H=>D.nx σ H
def tSeq (t u:TS):TS:=fun D σ H=>t { D with nx:=u D } σ H
theorem pss_nil:PSs X [] tNext:=fun _ _ σ H _ I h=>wpAny_execs_nil ⟨σ,H,I,h⟩
theorem pss_cons (h1:PS X st t) (h2:PSs X rest u):PSs X (st :: rest) (tSeq t u):=by
 intro pins s σ H D I h
 refine wpAny_execs_cons (thn (h1 pins s σ H { D with nx:=u D } I h) fun f s1 q=>?_)
 cases f with
 | next =>
  obtain ⟨σ',H',I',q⟩:=q
  exact h2 pins s1 σ' H' D I' q
 | ret v=>exact q
 | brk=>exact q
 | cont=>exact q
theorem pss_one (h1:PS X st t):PSs X [st] t:=by
 intro pins s σ H D I h
 refine wpAny_execs_cons (thn (h1 pins s σ H D I h) fun f s1 q=>?_)
 cases f with
 | next=>exact wpAny_execs_nil q
 | ret v=>exact q
 | brk=>exact q
 | cont=>exact q
theorem Inv.quiet {pins:List (Addr×Obj)} {σ:St} {H:Hp} {s:Shared} (I:Inv X pins σ H s):interactive X.env=false:=by simp [interactive,I.ok.kind]
def tDrop (te:TE):TS:=fun D σ H=>te σ H fun _ H1=>D.nx σ H1
theorem ps_expr (he:PE X e te) (hs:swapsWith e none pos.line X.env=pure false:=by rfl):PS X (.Expr e pos) (tDrop te):=by
 intro pins s σ H D I h
 exact wpAny_Expr_any (thn (he pins s σ H _ I h) fun v s1 ⟨x,H1,I1,r1,q1⟩=>⟨σ,H1,I1,q1⟩) I.quiet hs
def tRet (te:TE):TS:=fun D σ H=>te σ H D.rt
theorem ps_ret (he:PE X e te):PS X (.Return (some e) pos) (tRet te):=by
 intro pins s σ H D I h
 exact wpAny_Return_some (thn (he pins s σ H _ I h) fun v s1 ⟨x,H1,I1,r1,q1⟩=>⟨x,σ,H1,I1,r1,q1⟩)
def tIfS (c:TT) (t u:TS):TS:=fun D σ H=>c σ H fun b H1=>if b=true then t D σ H1 else u D σ H1
theorem ps_if {c:Expr} {a b:List Stmt} {tc:TT} (hc:PT X c tc) (ha:PSs X a t) (hb:PSs X b u):PS X (.If c a b pos) (tIfS tc t u):=by
 intro pins s σ H D I h
 refine wpAny_If (thn (hc pins s σ H _ I h) fun d s1 ⟨H1,I1,q1⟩=>?_)
 cases d with
 | true=>exact ha pins s1 σ H1 D I1 q1
 | false=>exact hb pins s1 σ H1 D I1 q1
def tNever:TS:=fun _ _ _=>False
theorem pss_never {sts:List Stmt}:PSs X sts tNever:=fun _ _ _ _ _ _ h=>h.elim
end
abbrev TG:=V→St→Hp→(St→Hp→Prop)→Prop
abbrev TGs:=List V→St→Hp→(St→Hp→Prop)→Prop
def PG (X:Cx) (target:Expr) (t:TG):Prop :=
 ∀ (pins:List (Addr×Obj)) (s:Shared) (σ:St) (H:Hp) (v:V) (u:Value) (Q:St→Hp→Prop),Inv X pins σ H s→RelV v u→t v σ H Q →
  wpAny (model X.prog X.w) X.A (assign target X.env u) (fun _ s'=>∃ σ' H',Inv X pins σ' H' s'∧Q σ' H') X.xe s
def PGs (X:Cx) (ts:List Expr) (t:TGs):Prop :=
 ∀ (pins:List (Addr×Obj)) (s:Shared) (σ:St) (H:Hp) (vs:List V) (us:List Value) (Q:St→Hp→Prop),Inv X pins σ H s→Vals vs us→t vs σ H Q →
  wpAny (model X.prog X.w) X.A (assignInOrder ((assignEach ts X.env).map (·.2)) us) (fun _ s'=>∃ σ' H',Inv X pins σ' H' s'∧Q σ' H') X.xe s
abbrev TIp:=V→V→Hp→VK→Prop
def PIp (X:Cx) (op:Operator) (t:TIp):Prop :=
 ∀ (pins:List (Addr×Obj)) (s:Shared) (σ:St) (H:Hp) (x y:V) (v u:Value) (Q:VK),Inv X pins σ H s→RelV x v→RelV y u→t x y H Q →
  wpAny (model X.prog X.w) X.A (inplaceOp op v u) (EP X pins σ Q) X.xe s
section
variable {X:Cx} {pos:Pos}
def gName (i:Nat):TG:=fun v σ H Q=>Q (σ.set i (some v)) H
theorem pg_name {i:Nat} {x:Str} (hN:X.N.Nodup) (hi:X.N[i]?=some x) (hx:Loc X.env.scope x) (hf:X.fn x=true∨X.env.scope.names.lookup x=some .local:=by first | exact .inl rfl | exact .inr rfl | assumption):PG X (.Name x pos) (gName i):=by
 intro pins s σ H v u Q I r h
 exact wpAny_assign_Name (store_ok I hN hi hx r (fun s' I'=>⟨_,H,I',h⟩) hf)
def gNil:TGs:=fun vs σ H Q=>vs=[]∧Q σ H
def gCons (t:TG) (u:TGs):TGs:=fun vs σ H Q=>∃ v r,vs=v :: r∧t v σ H fun σ' H'=>u r σ' H' Q
theorem pgs_nil:PGs X [] gNil:=by
 intro pins s σ H vs us Q I r h
 obtain ⟨e,h⟩:=h
 subst e
 cases r
 exact assignInOrder_nil ⟨σ,H,I,h⟩
theorem pgs_cons {e:Expr} {es:List Expr} {t:TG} {u:TGs} (h1:PG X e t) (h2:PGs X es u)
  (hs:(assignEach (e :: es) X.env).map (·.2)=assign e X.env :: (assignEach es X.env).map (·.2):=by rfl):PGs X (e :: es) (gCons t u):=by
 intro pins s σ H vs us Q I r h
 obtain ⟨v,vr,e1,h⟩:=h
 subst e1
 cases r with
 | cons r rr =>
  rw [hs]
  refine assignInOrder_cons (thn (h1 pins s σ H _ _ _ I r h) fun _ s1 ⟨σ1,H1,I1,q1⟩=>?_)
  exact h2 pins s1 σ1 H1 _ _ Q I1 rr q1
def gTup (K:PySem.W.Frag) (n:Nat) (t:TGs):TG:=fun v σ H Q=>∃ a xs,v=.ref a∧SqT K H a xs∧xs.length=n∧t xs σ H Q
theorem pg_tup {es:List Expr} {k:Nat} {t:TGs} {n:Nat} (hc:X.calm=true) (h:PGs X es t)
  (hn:(assignEach es X.env).length=n:=by rfl) (hst:(assignEach es X.env).findIdx? (·.1)=none:=by rfl):PG X (.Tuple es k pos) (gTup X.K n t):=by
 intro pins s σ H v u Q I r hw
 obtain ⟨a,xs,e1,hq,hl,hw⟩:=hw
 subst e1
 cases r
 obtain ⟨its,rv,ht,hz⟩:=I.tuple hq
 refine assign_Tuple_tuple (I.ok.hd hc) ht (by simp [hn,← hl,rv.length]) hst fun h' hx=>?_
 have I1:Inv X pins σ H { s with heap:=h' }:=I.kept (t':=s.toks) fun b o e=>hx b o (Nat.ne_of_lt (Heap.lt_size e)) e
 exact h pins _ σ H xs _ Q I1 (by simpa using rv) hw
def tAsg (te:TE) (g:TG):TS:=fun D σ H=>te σ H fun x H1=>g x σ H1 D.nx
theorem ps_set {i:Nat} {x:Str} {e:Expr} {te:TE} {pos':Pos} (hN:X.N.Nodup) (hi:X.N[i]?=some x) (hx:Loc X.env.scope x) (he:PE X e te) (hs:swapsWith e (some (.Name x pos')) pos.line X.env=pure false:=by rfl) (hf:X.fn x=true∨X.env.scope.names.lookup x=some .local:=by first | exact .inl rfl | exact .inr rfl | assumption) :
  PS X (.Assign [.Name x pos'] e pos) (tAsg te (gName i)):=by
 intro pins s σ H D I h
 refine wpAny_Assign_Name (thn (he pins s σ H _ I h) fun v s1 ⟨y,H1,I1,r1,q1⟩=>?_) hs
 exact store_ok I1 hN hi hx r1 (fun s2 I2=>⟨_,H1,I2,q1⟩) hf
def tAug (i:Nat) (te:TE) (ti:TIp):TS:=fun D σ H=>∃ x,σ[i]?=some (some x)∧te σ H fun y H1=>ti x y H1 fun z H2=>D.nx (σ.set i (some z)) H2
theorem ps_aug {i:Nat} {x:Str} {e:Expr} {te:TE} {op:Operator} {ti:TIp} {pos':Pos} (hN:X.N.Nodup) (hi:X.N[i]?=some x) (hx:Loc X.env.scope x) (he:PE X e te) (ho:PIp X op ti) (hf:X.fn x=true∨X.env.scope.names.lookup x=some .local:=by first | exact .inl rfl | exact .inr rfl | assumption) :
  PS X (.AugAssign (.Name x pos') op e pos) (tAug i te ti):=by
 intro pins s σ H D I h
 obtain ⟨v,e1,h⟩:=h
 obtain ⟨m,hn,hl⟩:=I.loc
 have vis:Vis X.env.scope x:=by rcases hx with k | k;exact .inl k;exact .inr (.inl k)
 obtain ⟨u,r,l⟩:=hl i x v hi e1 vis
 refine wpAny_AugAssign_Name ?_
 have go:wpAny (model X.prog X.w) X.A (eval e X.env) (fun w s₂=>wpAny (model X.prog X.w) X.A (inplaceOp op u w) (fun r s₃=>wpAny (model X.prog X.w) X.A (storeName X.env x r) (fun _=>SP X pins D .next) X.xe s₃) X.xe s₂) X.xe s:=by
  refine thn (he pins s σ H _ I h) fun w s1 ⟨y,H1,I1,r1,q1⟩=>?_
  refine thn (ho pins s1 σ H1 v y u w _ I1 r r1 q1) fun z s2 ⟨zv,H2,I2,r2,q2⟩=>?_
  exact store_ok I2 hN hi hx r2 (fun s3 I3=>⟨_,H2,I3,q2⟩) hf
 rcases l with ⟨hk,hm⟩ | ⟨hk,c,hc,hcell⟩
 ·exact wpAny_loadName_local I.ok.kind hk hn hm go
 ·rcases hk with hk | hk
  ·exact wpAny_loadName_cell I.ok.kind hk hc hcell go
  ·rcases hx with k | k
   ·have:X.env.scope.names.lookup x=some .free:=hk
    rw [k] at this;cases this
   ·have:X.env.scope.names.lookup x=some .free:=hk
    rw [k] at this;cases this
def ipI (f:Int→Int→Int):TIp:=fun x y H Q=>∃ i j,x=.int i∧y=.int j∧Q (.int (f i j)) H
theorem ip_add:PIp X .Add (ipI fun i j=>i+j):=by
 intro pins s σ H x y v u Q I r1 r2 h
 obtain ⟨i,j,e1,e2,q⟩:=h
 subst e1;subst e2
 obtain ⟨t,rfl⟩:=r1
 obtain ⟨t',rfl⟩:=r2
 exact iadd_int ⟨.int _,H,I.tok _,⟨_,rfl⟩,q⟩
end
section
variable {X:Cx} {pos:Pos}
def tWhile (c:TT) (tb:TS):TS:=fun D σ H=>∃ W:Nat→St→Hp→Prop,(∃ m,W m σ H)∧∀ m σ H,W m σ H →
 c σ H fun b H1=>if b=true then ∃ N:St→Hp→Prop,(∀ σ' H',N σ' H'→∃ m',m' < m∧W m' σ' H')∧tb { D with nx:=N,ct:=N,bk:=D.nx } σ H1 else D.nx σ H1
theorem ps_while {c:Expr} {body:List Stmt} {tc:TT} {tb:TS} (hp:PassesOwn (model X.prog X.w) X.A X.env X.xe) (hc:PT X c tc) (hb:PSs X body tb):PS X (.While c body [] pos) (tWhile tc tb):=by
 intro pins s σ H D I h
 obtain ⟨W,⟨m0,w0⟩,turn⟩:=h
 refine wpAny_While (codeAny_whileLoop (fun n s'=>∃ σ' H',Inv X pins σ' H' s'∧W n σ' H') ?_ m0 ⟨σ,H,I,w0⟩)
 rintro n s1 ⟨σ1,H1,I1,w1⟩
 refine wpAny_passesOwn hp (thn (hc pins s1 σ1 H1 _ I1 (turn n σ1 H1 w1)) fun b s2 ⟨H2,I2,q2⟩=>?_)
 cases b with
 | true =>
  obtain ⟨N,hN,q2⟩:=q2
  rw [if_pos rfl]
  refine wpAny_passesOwn hp (thn (hb pins s2 σ1 H2 _ I2 q2) fun f s3 q3=>?_)
  cases f with
  | next =>
   obtain ⟨σ3,H3,I3,n3⟩:=q3
   obtain ⟨m',hm,w3⟩:=hN σ3 H3 n3
   exact ⟨m',hm,σ3,H3,I3,w3⟩
  | cont =>
   obtain ⟨σ3,H3,I3,n3⟩:=q3
   obtain ⟨m',hm,w3⟩:=hN σ3 H3 n3
   exact ⟨m',hm,σ3,H3,I3,w3⟩
  | brk=>exact q3
  | ret v=>exact q3
 | false =>
  rw [if_neg Bool.false_ne_true]
  exact wpAny_execs_nil ⟨σ1,H2,I2,q2⟩
end
structure It where
 go:Nat→Hp→Prop
 yld:Nat→Hp→V→Hp→Prop
 stop:Nat→Hp→Prop
def FpOk (X:Cx) (pins:List (Addr×Obj)) (H:Hp) (b:Addr):Prop :=
 H b=none∧b≠X.env.locals∧b∉X.fs∧(b∈X.ex∨X.s₀.heap.objs.size≤b)∧(∀ x c,X.env.cells.lookup x=some c→c≠b)∧∀ p∈X.pn++pins,p.1≠b
theorem Inv.fpOk {X:Cx} {pins:List (Addr×Obj)} {σ:St} {H H':Hp} {s:Shared} {b:Addr} (I:Inv X pins σ H s) (hb:s.heap.objs.size≤b) (hn:H' b=none):FpOk X pins H' b:=by
 refine ⟨hn,Nat.ne_of_gt (Nat.lt_of_lt_of_le I.lt hb),I.nofs hb,.inr (Nat.le_trans I.sz hb),fun x c e z=>?_,fun p hp z=>?_⟩
 ·obtain ⟨v,q⟩:=I.cell x c e
  exact absurd (Nat.lt_of_lt_of_le q.lt (by rw [z];exact hb)) (Nat.lt_irrefl _)
 ·exact absurd (Nat.lt_of_lt_of_le (Heap.lt_size (I.pin p hp).1) (by rw [z];exact hb)) (Nat.lt_irrefl _)
structure Turn (P:Program) (w:World) (K:PySem.W.Frag) (tg:Expr) (J:It) (fp:List Addr) (it:Addr) (tn:Nat→Heap→Prop):Prop where
 mem:it∈fp
 obj:∀ i h,tn i h→∀ b∈fp,∃ o,h.get? b=some o∧∀ v,o.data≠.cell v
 keep:∀ i h h',tn i h→(∀ b∈fp,∀ o,h.get? b=some o→h'.get? b=some o)→tn i h'
 item:∀ (X:Cx),X.prog=P→X.w=w→X.K=K→X.calm=true→∀ (i:Nat) (pins:List (Addr×Obj)) (s:Shared) (σ:St) (H:Hp) (E:Value→Shared→Prop),Inv X pins σ H s→(∀ b∈fp,FpOk X pins H b)→tn i s.heap→J.go i H →
  wpAny (model P w) X.A (pyNext (.ref it)) (fun r s1=>∃ u,r=some u ∧
   wpAny (model P w) X.A (letOwnedTupleGo tg (.ref it) u) (fun _ s2=>∃ x H',Inv X pins σ H' s2∧RelV x u∧J.yld i H x H'∧tn (i+1) s2.heap∧∀ b∈fp,H' b=none) E s1) E s
 done:∀ (X:Cx),X.prog=P→X.w=w→X.K=K→X.calm=true→∀ (i:Nat) (pins:List (Addr×Obj)) (s:Shared) (σ:St) (H:Hp) (E:Value→Shared→Prop),Inv X pins σ H s→(∀ b∈fp,FpOk X pins H b)→tn i s.heap→J.stop i H →
  wpAny (model P w) X.A (pyNext (.ref it)) (fun r s1=>r=none∧Inv X pins σ H s1) E s
 self:∀ (A:Around) (i:Nat) (s:Shared) (Q:Value→Shared→Prop) (E:Value→Shared→Prop),tn i s.heap→Q (.ref it) s→wpAny (model P w) A (pyIter (.ref it)) Q E s
abbrev TI:=St→Hp→(It→Hp→Prop)→Prop
def PIE (X:Cx) (pins:List (Addr×Obj)) (σ:St) (tg:Expr) (R:It→Hp→Prop) (itv:Value) (s2:Shared):Prop :=
 ∃ (it:Addr) (fp:List Addr) (tn:Nat→Heap→Prop) (J:It) (H':Hp),itv=.ref it∧Inv X pins σ H' s2∧Turn X.prog X.w X.K tg J fp it tn∧tn 0 s2.heap∧(∀ b∈fp,FpOk X pins H' b)∧R J H'
def PI (X:Cx) (tg iter:Expr) (wi:TI):Prop :=
 ∀ (pins:List (Addr×Obj)) (s:Shared) (σ:St) (H:Hp) (R:It→Hp→Prop),Inv X pins σ H s→wi σ H R →
  wpAny (model X.prog X.w) X.A (eval iter X.env) (fun v s1=>wpAny (model X.prog X.w) X.A (pyIter v) (PIE X pins σ tg R) X.xe s1) X.xe s
theorem go_of {M:Model} {A:Around} {E:Value→Shared→Prop} {s:Shared} {tg:Expr} {it:Addr} {u:Value} {o:Obj} {n:String} {vs:Array Value} {Q:Unit→Shared→Prop} (ho:s.heap.get? it=some o) (hc:o.cls=.type n) (hd:o.data=.fields vs)
    (hn:["enumerate","zip","dict_itemiterator","dict_reverseitemiterator","odict_iterator","itertools.zip_longest","itertools.pairwise"].contains n=false) (hQ:Q () s):wpAny M A (letOwnedTupleGo tg (.ref it) u) Q E s:=by
  unfold letOwnedTupleGo
  cases tg <;> first
    | exact wpAny_pure hQ
    | (cases u <;> first
        | exact wpAny_pure hQ
        | (refine wpAny_bind (wpAny_load ho ?_)
           rw [hc,hd]
           show wpAny M A (if (["enumerate","zip","dict_itemiterator","dict_reverseitemiterator","odict_iterator","itertools.zip_longest","itertools.pairwise"].contains n && vs[0]? == some (rawInt _))=true then _ else _) Q E s
           rw [if_neg (by intro h;rw [hn,Bool.false_and] at h;cases h)]
           exact wpAny_pure hQ))
def Itl (K:PySem.W.Frag) (a:Addr):It :=
 ⟨fun i H=>∃ xs x,SqL K H a xs∧xs[i]?=some x,fun i H x H'=>H'=H∧∀ xs,SqL K H a xs→xs[i]?=some x,fun i H=>∃ xs,SqL K H a xs∧xs.length≤i⟩
def Itr (lo:Int) (n:Nat):It:=⟨fun i _=>i < n,fun i H x H'=>H'=H∧x=.int (lo+i),fun i _=>n≤i⟩
theorem turn_list {P:Program} {w:World} {K:PySem.W.Frag} {tg:Expr} (a it:Addr):Turn P w K tg (Itl K a) [it] it (fun i h=>h.IsListIter it a i) where
 mem:=by simp
 obj:=fun i h st b hb=>by
  have e:b=it:=by simpa using hb
  subst e
  obtain ⟨o,e,c,d⟩:=st
  exact ⟨o,e,fun v z=>by rw [d] at z;cases z⟩
 keep:=fun i h h' st k=>st.at fun o e=>k it (by simp) o e
 item:=by
  intro X hP hw hK hc i pins s σ H E I hf st hg
  subst hP hw hK
  obtain ⟨xs,x,hq,hx⟩:=hg
  obtain ⟨its,rv,p,hz⟩:=I.list hq
  obtain ⟨u,hu,ru⟩:=rv.get hx
  obtain ⟨f0,f1,f2,f3,f4,f5⟩:=hf it (by simp)
  refine wpAny_pyNext_list_item st p.isList (x:=u) (by simpa using hu) fun h' st' sb=>?_
  have I1:Inv X pins σ H { s with heap:=h' }:=I.turned (t':=s.toks) (fun b o hb e=>(sb.2 b hb).trans e) f0 f1 f3 f4 f5
  obtain ⟨o,e,c,d⟩:=id st'
  exact ⟨u,rfl,go_of (s:={ s with heap:=h' }) e c d (by decide) ⟨x,H,I1,ru,⟨rfl,fun ys hy=>by rw [I.list_inj hy hq];exact hx⟩,st',fun b hb=>(hf b hb).1⟩⟩
 done:=by
  intro X hP hw hK hc i pins s σ H E I hf st hg
  subst hP hw hK
  obtain ⟨xs,hq,hx⟩:=hg
  obtain ⟨its,rv,p,hz⟩:=I.list hq
  obtain ⟨f0,f1,f2,f3,f4,f5⟩:=hf it (by simp)
  have hl:=rv.length
  exact wpAny_pyNext_list_end (I.ok.hd hc) st p.isList (by simp;omega) fun h' eb=>⟨rfl,I.turned (t':=s.toks) (fun b o hb e=>eb b o hb e) f0 f1 f3 f4 f5⟩
 self:=fun _ _ _ _ _ st h=>wpAny_pyIter_listiter st h
theorem turn_range {P:Program} {w:World} {K:PySem.W.Frag} {tg:Expr} (it:Addr) (lo:Int) (n:Nat):Turn P w K tg (Itr lo n) [it] it (fun i h=>IsRangeIter h it (lo+(i:Nat) * 1) ((n:Int) - (i:Nat)) 1) where
 mem:=by simp
 obj:=fun i h st b hb=>by
  have e:b=it:=by simpa using hb
  subst e
  exact ⟨_,st,fun v z=>by
   have z':Data.fields _=Data.cell v:=z
   cases z'⟩
 keep:=fun i h h' st k=>k it (by simp) _ st
 item:=by
  intro X hP hw hK hc i pins s σ H E I hf st hg
  subst hP hw hK
  obtain ⟨f0,f1,f2,f3,f4,f5⟩:=hf it (by simp)
  have W:=Walks.range (prog:=X.prog) (w:=X.w) (I.ok.hd hc) it lo 1 n
  refine W.item i s _ _ hg st fun v h' tk hv st' kk=>?_
  obtain ⟨t,rfl⟩:=hv
  have I1:Inv X pins σ H { s with heap:=h',toks:=tk }:=I.turned (fun b o hb e=>kk b o (by simpa using hb) e) f0 f1 f3 f4 f5
  refine ⟨_,rfl,go_of (s:={ s with heap:=h',toks:=tk }) (n:="range_iterator") st' rfl rfl (by decide) ⟨.int (lo+i),H,I1,⟨t,?_⟩,⟨rfl,rfl⟩,st',fun b hb=>(hf b hb).1⟩⟩
  rw [Int.mul_one]
 done:=by
  intro X hP hw hK hc i pins s σ H E I hf st hg
  subst hP hw hK
  obtain ⟨f0,f1,f2,f3,f4,f5⟩:=hf it (by simp)
  exact wpAny_pyNext_range_end (I.ok.hd hc) st (by have:n≤i:=hg;omega) fun h' eb=>⟨rfl,I.turned (t':=s.toks) (fun b o hb e=>eb b o hb e) f0 f1 f3 f4 f5⟩
 self:=fun _ _ _ _ _ st h=>wpAny_pyIter_rangeiter st h
end L2
namespace L2
open PySem PySem.Spec PyProof.Rows
section
variable {X:Cx} {tg:Expr}
def iList (K:PySem.W.Frag) (tl:TE):TI:=fun σ H R=>tl σ H fun x H1=>∃ a,x=.ref a∧(∃ xs,SqL K H1 a xs)∧R (Itl K a) H1
theorem pi_list {l:Expr} {tl:TE} (hl:PE X l tl):PI X tg l (iList X.K tl):=by
 intro pins s σ H R I h
 refine thn (hl pins s σ H _ I h) fun v s1 ⟨x,H1,I1,r1,q1⟩=>?_
 obtain ⟨a,e,⟨xs,hq⟩,q⟩:=q1
 subst e
 cases r1
 obtain ⟨its,rv,p,hz⟩:=I1.list hq
 refine wpAny_pyIter_list p.isList ?_
 refine ⟨s1.heap.objs.size,[s1.heap.objs.size],_,_,H1,rfl,I1.kept (t':=s1.toks) fun b o e=>Heap.get?_push_of_some _ e,turn_list a _,⟨_,Heap.get?_push_size _ rfl,rfl,rfl⟩,fun b hb=>?_,q⟩
 have e:b=s1.heap.objs.size:=by simpa using hb
 subst e
 exact I1.fpOk (Nat.le_refl _) (I1.hok.fresh (Nat.le_refl _))
theorem range_it {pins:List (Addr×Obj)} {σ:St} {H:Hp} {s:Shared} {R:It→Hp→Prop} {E:Value→Shared→Prop} {lo hi:Int} {t u v:Tok} {tk:Nat} (I:Inv X pins σ H s) (h1:-(2 ^ 62)≤lo) (h2:lo < 2 ^ 62) (h3:-(2 ^ 62)≤hi) (h4:hi < 2 ^ 62)
  (q:R (Itr lo (hi - lo).toNat) H):wpAny (model X.prog X.w) X.A (pyIter (.ref s.heap.objs.size)) (PIE X pins σ tg R) E { s with heap:=s.heap.push { cls:=.type "range",data:=.fields #[.int lo t,.int hi u,.int 1 v] },toks:=tk }:=by
 refine wpAny_pyIter_range (IsRange.new ..) (small_one h1 h2 h3 h4) ?_
 have I1:Inv X pins σ H { s with heap:=s.heap.push { cls:=.type "range",data:=.fields #[.int lo t,.int hi u,.int 1 v] },toks:=tk }:=I.kept fun b o e=>Heap.get?_push_of_some _ e
 refine ⟨(s.heap.push { cls:=.type "range",data:=.fields #[.int lo t,.int hi u,.int 1 v] }).objs.size,[(s.heap.push { cls:=.type "range",data:=.fields #[.int lo t,.int hi u,.int 1 v] }).objs.size],_,_,H,rfl,
  I1.kept (t':=tk) fun b o e=>Heap.get?_push_of_some _ e,turn_range _ lo (hi - lo).toNat,?_,fun b hb=>?_,q⟩
 ·have e1:lo+((0:Nat):Int) * 1=lo:=by simp
  have e2:(((hi - lo).toNat:Nat):Int) - ((0:Nat):Int)=Builtin.Range.rangeSize lo hi 1:=by rw [rangeSize_one];split <;> omega
  show IsRangeIter _ _ (lo+((0:Nat):Int) * 1) ((((hi - lo).toNat:Nat):Int) - ((0:Nat):Int)) 1
  rw [e1,e2]
  exact Heap.get?_push_size _ rfl
 ·have e:b=(s.heap.push { cls:=.type "range",data:=.fields #[.int lo t,.int hi u,.int 1 v] }).objs.size:=by simpa using hb
  subst e
  exact I1.fpOk (Nat.le_refl _) (I1.hok.fresh (Nat.le_refl _))
def iRng1 (ta:TA):TI:=fun σ H R=>ta σ H fun vs H1=>∃ j:Int,vs=[.int j]∧-(2 ^ 62)≤j∧j < 2 ^ 62∧R (Itr 0 j.toNat) H1
def iRng2 (ta:TA):TI:=fun σ H R=>ta σ H fun vs H1=>∃ i j:Int,vs=[.int i,.int j]∧(-(2 ^ 62)≤i∧i < 2 ^ 62∧-(2 ^ 62)≤j∧j < 2 ^ 62)∧R (Itr i (j - i).toNat) H1
theorem pi_range1 {a:Expr} {ta:TA} {p pos:Pos} (hg:Gl X "range") (hm:X.mg "range"=none) (ha:PA X [a] ta) (hs:starEach [a] X.env=[(false,eval a X.env)]:=by rfl):PI X tg (.Call (.Name "range" p) [a] [] pos) (iRng1 ta):=by
 intro pins s σ H R I h
 refine Call_ (ld_blt I hg hm boot_range (PyProof.Rows.callWith_type1 (thn (ha pos pins s σ H _ I h) fun us s1 ⟨vs,H1,I1,r1,q1⟩=>?_) hs rfl))
 obtain ⟨j,e,q1,q2,q⟩:=q1
 subst e
 cases r1 with
 | cons r rr =>
  cases rr
  obtain ⟨t,rfl⟩:=r
  exact call_range_1 (range_it I1 (by omega) (by omega) q1 q2 (by simpa using q))
theorem pi_range2 {a b:Expr} {ta:TA} {p pos:Pos} (hg:Gl X "range") (hm:X.mg "range"=none) (ha:PA X [a,b] ta) (hs:starEach [a,b] X.env=[(false,eval a X.env),(false,eval b X.env)]:=by rfl) (hs2:starEach [b] X.env=[(false,eval b X.env)]:=by rfl) :
  PI X tg (.Call (.Name "range" p) [a,b] [] pos) (iRng2 ta):=by
 intro pins s σ H R I h
 refine Call_ (ld_blt I hg hm boot_range (PyProof.Rows.callWith_type1 (thn (ha pos pins s σ H _ I h) fun us s1 ⟨vs,H1,I1,r1,q1⟩=>?_) (by rw [hs,hs2]) (by rw [hs2];rfl)))
 obtain ⟨i,j,e,⟨q1,q2,q3,q4⟩,q⟩:=q1
 subst e
 cases r1 with
 | cons r rr =>
  cases rr with
  | cons r' rr =>
   cases rr
   obtain ⟨t,rfl⟩:=r
   obtain ⟨t',rfl⟩:=r'
   exact call_range_2 (range_it I1 q1 q2 q3 q4 q)
def tFor (wi:TI) (g:TG) (tb:TS):TS:=fun D σ H=>wi σ H fun J H1=>∃ W:Nat→Nat→St→Hp→Prop,(∃ m,W 0 m σ H1)∧∀ i m σ H,W i m σ H →
 (J.stop i H∧D.nx σ H)∨(J.go i H∧∃ N:St→Hp→Prop,(∀ σ' H',N σ' H'→∃ m',m' < m∧W (i+1) m' σ' H')∧∀ x H',J.yld i H x H'→g x σ H' fun σ2 H2=>tb { D with nx:=N,ct:=N,bk:=D.nx } σ2 H2)
def pinsAt (fp:List Addr) (h:Heap):List (Addr×Obj):=fp.filterMap fun b=>(h.get? b).map fun o=>(b,o)
theorem mem_pinsAt {fp:List Addr} {h:Heap} {b:Addr} {o:Obj} (hb:b∈fp) (e:h.get? b=some o):(b,o)∈pinsAt fp h:=List.mem_filterMap.mpr ⟨b,hb,by rw [e];rfl⟩
theorem of_pinsAt {fp:List Addr} {h:Heap} {p:Addr×Obj} (hp:p∈pinsAt fp h):p.1∈fp∧h.get? p.1=some p.2:=by
 obtain ⟨b,hb,e⟩:=List.mem_filterMap.mp hp
 cases q:h.get? b with
 | none=>rw [q] at e;cases e
 | some o =>
  rw [q] at e
  have e':(b,o)=p:=Option.some.inj e
  subst e'
  exact ⟨hb,q⟩
theorem Inv.pinned {pins:List (Addr×Obj)} {σ:St} {H:Hp} {s:Shared} {fp:List Addr} (I:Inv X pins σ H s) (hf:∀ b∈fp,FpOk X pins H b) (ho:∀ b∈fp,∃ o,s.heap.get? b=some o∧∀ v,o.data≠.cell v):Inv X (pins++pinsAt fp s.heap) σ H s :=
 I.pins_of fun p hp=>(List.mem_append.mp hp).elim (fun z=>I.pin p (List.mem_append_right _ z)) fun z=>by
  obtain ⟨hb,e⟩:=of_pinsAt z
  obtain ⟨f0,f1,f2,_⟩:=hf p.1 hb
  obtain ⟨o,e',d⟩:=ho p.1 hb
  rw [e] at e';cases e'
  exact ⟨e,f0,f1,f2,d⟩
theorem Inv.unpinned {pins pl:List (Addr×Obj)} {σ:St} {H:Hp} {s:Shared} (I:Inv X (pins++pl) σ H s):Inv X pins σ H s:=I.pins_of fun p hp=>I.pin p (List.mem_append_right _ (List.mem_append_left _ hp))
theorem ps_for {iter:Expr} {body:List Stmt} {wi:TI} {g:TG} {tb:TS} {pos:Pos} (hp:PassesOwn (model X.prog X.w) X.A X.env X.xe) (hc:X.calm=true) (hi:PI X tg iter wi) (hg:PG X tg g) (hb:PSs X body tb)
  (hs:∀ x,foldedSetIterable iter X.env x=pure x:=by intro _;rfl):PS X (.For tg iter body [] pos) (tFor wi g tb):=by
 intro pins s σ H D I h
 refine wpAny_For (thn (hi pins s σ H _ I h) fun v s1 h1=>thn h1 fun itv s2 h2=>?_) hs
 obtain ⟨it,fp,tn,J,H2,e,I2,T,st2,f2,W,⟨m0,w0⟩,turn⟩:=h2
 subst e
 have stat:∀ {H':Hp},(∀ b∈fp,H' b=none)→∀ b∈fp,FpOk X pins H' b:=fun hn b hb=>⟨hn b hb,(f2 b hb).2⟩
 refine codeAny_forLoop_any (fun n s'=>∃ i σ' H',Inv X pins σ' H' s'∧tn i s'.heap∧(∀ b∈fp,H' b=none)∧W i n σ' H') ?_ m0 ⟨0,σ,H2,I2,st2,fun b hb=>(f2 b hb).1,w0⟩
 rintro n s3 ⟨i,σ3,H3,I3,st3,fr3,w3⟩
 rcases turn i n σ3 H3 w3 with ⟨stop,qn⟩ | ⟨go,N,hN,step⟩
 ·refine wpAny_passesOwn hp (thn (T.done X rfl rfl rfl hc i pins s3 σ3 H3 X.xe I3 (stat fr3) st3 stop) fun r s4 ⟨hr,I4⟩=>?_)
  subst hr
  exact wpAny_execs_nil ⟨σ3,H3,I4,qn⟩
 ·refine wpAny_passesOwn hp (thn (T.item X rfl rfl rfl hc i pins s3 σ3 H3 X.xe I3 (stat fr3) st3 go) fun r s4 ⟨u,hr,h4⟩=>?_)
  subst hr
  refine wpAny_passesOwn hp (thn h4 fun _ s5 ⟨x,H5,I5,r5,y5,st5,fr5⟩=>?_)
  have I5':=I5.pinned (stat fr5) (T.obj _ _ st5)
  refine wpAny_passesOwn hp (thn (hg _ s5 σ3 H5 x u _ I5' r5 (step x H5 y5)) fun _ s6 ⟨σ6,H6,I6,q6⟩=>?_)
  refine wpAny_passesOwn hp (thn (hb _ s6 σ6 H6 _ I6 q6) fun f s7 q7=>?_)
  have again:∀ {σ7:St} {H7:Hp},Inv X (pins++pinsAt fp s5.heap) σ7 H7 s7→N σ7 H7→∃ m,m < n∧∃ i σ' H',Inv X pins σ' H' s7∧tn i s7.heap∧(∀ b∈fp,H' b=none)∧W i m σ' H':=fun {σ7 H7} I7 n7=>by
   obtain ⟨m',hm,w7⟩:=hN σ7 H7 n7
   refine ⟨m',hm,i+1,σ7,H7,I7.unpinned,T.keep _ _ _ st5 fun b hb o e=>(I7.pin (b,o) (List.mem_append_right _ (List.mem_append_right _ (mem_pinsAt hb e)))).1,fun b hb=>?_,w7⟩
   obtain ⟨o,e,d⟩:=T.obj _ _ st5 b hb
   exact (I7.pin (b,o) (List.mem_append_right _ (List.mem_append_right _ (mem_pinsAt hb e)))).2.1
  cases f with
  | next=>obtain ⟨σ7,H7,I7,n7⟩:=q7;exact again I7 n7
  | cont=>obtain ⟨σ7,H7,I7,n7⟩:=q7;exact again I7 n7
  | brk=>obtain ⟨σ7,H7,I7,q7⟩:=q7;exact ⟨σ7,H7,I7.unpinned,q7⟩
  | ret v=>obtain ⟨x7,σ7,H7,I7,r7,q7⟩:=q7;exact ⟨x7,σ7,H7,I7.unpinned,r7,q7⟩
end
theorem for_list {K:PySem.W.Frag} {a:Addr} {xs:List V} {g:TG} {tb:TS} {D:Ends} {σ:St} {H:Hp} (Pv:Nat→St→Hp→Prop) (h0:Pv 0 σ H) (hl:∀ i σ H,i≤xs.length→Pv i σ H→SqL K H a xs)
  (hs:∀ i x σ H,xs[i]?=some x→Pv i σ H→g x σ H fun σ2 H2=>tb { D with nx:=Pv (i+1),ct:=Pv (i+1),bk:=D.nx } σ2 H2) (hd:∀ σ H,Pv xs.length σ H→D.nx σ H) :
  ∃ W:Nat→Nat→St→Hp→Prop,(∃ m,W 0 m σ H)∧∀ i m σ H,W i m σ H →
   ((Itl K a).stop i H∧D.nx σ H)∨((Itl K a).go i H∧∃ N:St→Hp→Prop,(∀ σ' H',N σ' H'→∃ m',m' < m∧W (i+1) m' σ' H')∧∀ x H',(Itl K a).yld i H x H'→g x σ H' fun σ2 H2=>tb { D with nx:=N,ct:=N,bk:=D.nx } σ2 H2):=by
 refine ⟨fun i m σ H=>m=xs.length - i∧i≤xs.length∧Pv i σ H,⟨xs.length,by simp,Nat.zero_le _,h0⟩,?_⟩
 rintro i m σ H ⟨rfl,hi,p⟩
 have q:=hl i σ H hi p
 by_cases hlt:i < xs.length
 ·refine .inr ⟨⟨xs,xs[i],q,by simp [hlt]⟩,Pv (i+1),fun σ' H' p'=>⟨xs.length - (i+1),by omega,rfl,hlt,p'⟩,fun x H' y=>?_⟩
  obtain ⟨e,y⟩:=y
  subst e
  exact hs i x σ _ (y xs q) p
 ·have e:i=xs.length:=by omega
  subst e
  exact .inl ⟨⟨xs,q,Nat.le_refl _⟩,hd σ H p⟩
theorem for_range {lo:Int} {n:Nat} {g:TG} {tb:TS} {D:Ends} {σ:St} {H:Hp} (Pv:Nat→St→Hp→Prop) (h0:Pv 0 σ H)
  (hs:∀ i σ H,i < n→Pv i σ H→g (.int (lo+i)) σ H fun σ2 H2=>tb { D with nx:=Pv (i+1),ct:=Pv (i+1),bk:=D.nx } σ2 H2) (hd:∀ σ H,Pv n σ H→D.nx σ H) :
  ∃ W:Nat→Nat→St→Hp→Prop,(∃ m,W 0 m σ H)∧∀ i m σ H,W i m σ H →
   ((Itr lo n).stop i H∧D.nx σ H)∨((Itr lo n).go i H∧∃ N:St→Hp→Prop,(∀ σ' H',N σ' H'→∃ m',m' < m∧W (i+1) m' σ' H')∧∀ x H',(Itr lo n).yld i H x H'→g x σ H' fun σ2 H2=>tb { D with nx:=N,ct:=N,bk:=D.nx } σ2 H2):=by
 refine ⟨fun i m σ H=>m=n - i∧i≤n∧Pv i σ H,⟨n,by simp,Nat.zero_le _,h0⟩,?_⟩
 rintro i m σ H ⟨rfl,hi,p⟩
 by_cases hlt:i < n
 ·refine .inr ⟨hlt,Pv (i+1),fun σ' H' p'=>⟨n - (i+1),by omega,rfl,hlt,p'⟩,fun x H' y=>?_⟩
  obtain ⟨e,y⟩:=y
  subst e y
  exact hs i σ _ hlt p
 ·have e:i=n:=by omega
  subst e
  exact .inl ⟨Nat.le_refl _,hd σ H p⟩
end L2
namespace L2
open PySem PySem.Spec PyProof.Rows
abbrev R2:=V→V→Hp→VK→Prop
def OpR (X:Cx) (f:Value→Value→Sem Value) (r:R2):Prop :=
 ∀ (pins:List (Addr×Obj)) (s:Shared) (σ:St) (H:Hp) (x y:V) (v u:Value) (Q:VK),Inv X pins σ H s→RelV x v→RelV y u→r x y H Q →
  wpAny (model X.prog X.w) X.A (f v u) (EP X pins σ Q) X.xe s
def UnR (X:Cx) (f:Value→Sem Value) (r:V→Hp→VK→Prop):Prop :=
 ∀ (pins:List (Addr×Obj)) (s:Shared) (σ:St) (H:Hp) (x:V) (v:Value) (Q:VK),Inv X pins σ H s→RelV x v→r x H Q →
  wpAny (model X.prog X.w) X.A (f v) (EP X pins σ Q) X.xe s
def CallR (X:Cx) (f:Value) (r:List V→Hp→VK→Prop):Prop :=
 ∀ (pins:List (Addr×Obj)) (s:Shared) (σ:St) (H:Hp) (xs:List V) (us:List Value) (Q:VK),Inv X pins σ H s→Vals xs us→r xs H Q →
  wpAny (model X.prog X.w) X.A (call f us) (EP X pins σ Q) X.xe s
def tOp (r:R2) (ta tb:TE):TE:=fun σ H Q=>ta σ H fun x H1=>tb σ H1 fun y H2=>r x y H2 Q
def tUn (r:V→Hp→VK→Prop) (ta:TE):TE:=fun σ H Q=>ta σ H fun x H1=>r x H1 Q
def rI (C:Int→Int→Prop) (g:Int→Int→V):R2:=fun x y H Q=>∃ i j,x=.int i∧y=.int j∧C i j∧Q (g i j) H
def rI0 (g:Int→Int→V):R2:=fun x y H Q=>∃ i j,x=.int i∧y=.int j∧Q (g i j) H
def rU (g:Int→V):V→Hp→VK→Prop:=fun x H Q=>∃ i,x=.int i∧Q (g i) H
section
variable {X:Cx} {a b c:Expr} {ta tb tc:TE} {pos:Pos}
theorem binT (ha:PE X a ta) (hb:PE X b tb) {pins:List (Addr×Obj)} {s:Shared} {σ:St} {H:Hp} {R:V→V→Hp→Prop} (I:Inv X pins σ H s)
  (h:ta σ H fun x H1=>tb σ H1 fun y H2=>R x y H2) {Q:Value→Shared→Prop} {f:Value→Value→Sem Value}
  (hf:∀ v u s2 x y H2,Inv X pins σ H2 s2→RelV x v→RelV y u→R x y H2→wpAny (model X.prog X.w) X.A (f v u) Q X.xe s2) :
  wpAny (model X.prog X.w) X.A (eval a X.env) (fun v s₁=>wpAny (model X.prog X.w) X.A (eval b X.env) (fun u s₂=>wpAny (model X.prog X.w) X.A (f v u) Q X.xe s₂) X.xe s₁) X.xe s:=by
 refine thn (ha pins s σ H _ I h) fun v s1 ⟨x,H1,I1,r1,q1⟩=>?_
 refine thn (hb pins s1 σ H1 _ I1 q1) fun u s2 ⟨y,H2,I2,r2,q2⟩=>?_
 exact hf v u s2 x y H2 I2 r1 r2 q2
theorem pe_op {op:Operator} {r:R2} (ho:OpR X (binaryOp op) r) (ha:PE X a ta) (hb:PE X b tb):PE X (.BinOp a op b pos) (tOp r ta tb):=by
 intro pins s σ H Q I h
 exact wpAny_BinOp (binT ha hb I h fun v u s2 x y H2 I2 rx ry q=>ho pins s2 σ H2 x y v u Q I2 rx ry q)
theorem pe_un {op:UnaryOp} {r:V→Hp→VK→Prop} (ho:UnR X (unaryOp op) r) (ha:PE X a ta):PE X (.UnaryOp op a pos) (tUn r ta):=by
 intro pins s σ H Q I h
 exact UnaryOp_ (thn (ha pins s σ H _ I h) fun v s1 ⟨x,H1,I1,r1,q1⟩=>ho pins s1 σ H1 x v Q I1 r1 q1)
theorem opI {f:Value→Value→Sem Value} {C:Int→Int→Prop} {g:Int→Int→Int}
  (rule:∀ (i j:Int) (t u:Tok) (s:Shared) (Q:Value→Shared→Prop) (E:Value→Shared→Prop),C i j→Q (.int (g i j) s.toks) { s with toks:=s.toks+1 }→wpAny (model X.prog X.w) X.A (f (.int i t) (.int j u)) Q E s) :
  OpR X f (rI C fun i j=>.int (g i j)):=by
 intro pins s σ H x y v u Q I rx ry h
 obtain ⟨i,j,rfl,rfl,hc,q⟩:=h
 obtain ⟨t,rfl⟩:=rx
 obtain ⟨t',rfl⟩:=ry
 exact rule i j t t' s _ _ hc ⟨.int (g i j),H,I.tok _,⟨_,rfl⟩,q⟩
theorem opI0 {f:Value→Value→Sem Value} {g:Int→Int→Int}
  (rule:∀ (i j:Int) (t u:Tok) (s:Shared) (Q:Value→Shared→Prop) (E:Value→Shared→Prop),Q (.int (g i j) s.toks) { s with toks:=s.toks+1 }→wpAny (model X.prog X.w) X.A (f (.int i t) (.int j u)) Q E s) :
  OpR X f (rI0 fun i j=>.int (g i j)):=by
 intro pins s σ H x y v u Q I rx ry h
 obtain ⟨i,j,rfl,rfl,q⟩:=h
 obtain ⟨t,rfl⟩:=rx
 obtain ⟨t',rfl⟩:=ry
 exact rule i j t t' s _ _ ⟨.int (g i j),H,I.tok _,⟨_,rfl⟩,q⟩
theorem opB0 {f:Value→Value→Sem Value} {g:Int→Int→Bool}
  (rule:∀ (i j:Int) (t u:Tok) (s:Shared) (Q:Value→Shared→Prop) (E:Value→Shared→Prop),Q (.bool (g i j)) s→wpAny (model X.prog X.w) X.A (f (.int i t) (.int j u)) Q E s) :
  OpR X f (rI0 fun i j=>.bl (g i j)):=by
 intro pins s σ H x y v u Q I rx ry h
 obtain ⟨i,j,rfl,rfl,q⟩:=h
 obtain ⟨t,rfl⟩:=rx
 obtain ⟨t',rfl⟩:=ry
 exact rule i j t t' s _ _ ⟨.bl (g i j),H,I,rfl,q⟩
def CMul (i j:Int):Prop:=(-(2 ^ 64) < i∧i < 2 ^ 64)∨(-(2 ^ 64) < j∧j < 2 ^ 64)
theorem CMul.ok {i j:Int} (h:CMul i j):IntMulOk i j:=by
 rcases h with ⟨h1,h2⟩ | ⟨h1,h2⟩
 ·exact .of_left (intBits_le_64 h1 h2)
 ·exact .of_right (intBits_le_64 h1 h2)
theorem op_add:OpR X (binaryOp .Add) (rI0 fun i j=>.int (i+j)):=opI0 fun _ _ _ _ _ _ _ q=>add_int q
theorem op_sub:OpR X (binaryOp .Sub) (rI0 fun i j=>.int (i - j)):=opI0 fun _ _ _ _ _ _ _ q=>sub_int q
theorem op_mul:OpR X (binaryOp .Mult) (rI CMul fun i j=>.int (i * j)):=opI fun _ _ _ _ _ _ _ hc q=>mul_int q hc.ok
theorem op_mod:OpR X (binaryOp .Mod) (rI (fun _ j=>0 < j) fun i j=>.int (i % j)):=opI fun i j _ _ _ _ _ hc q=>by
 have h1:(0:Int) < j:=hc
 exact mod_int' (by omega) (by rw [Int.fmod_eq_emod_of_nonneg i (by omega)];exact q)
theorem unI {f:Value→Sem Value} {g:Int→Int}
  (rule:∀ (i:Int) (t:Tok) (s:Shared) (Q:Value→Shared→Prop) (E:Value→Shared→Prop),Q (.int (g i) s.toks) { s with toks:=s.toks+1 }→wpAny (model X.prog X.w) X.A (f (.int i t)) Q E s) :
  UnR X f (rU fun i=>.int (g i)):=by
 intro pins s σ H x v Q I rx h
 obtain ⟨i,rfl,q⟩:=h
 obtain ⟨t,rfl⟩:=rx
 exact rule i t s _ _ ⟨.int (g i),H,I.tok _,⟨_,rfl⟩,q⟩
theorem un_neg:UnR X (unaryOp .USub) (rU fun i=>.int (-i)):=unI fun _ _ _ _ _ q=>neg_int q
end
def scal:V→V→Bool
 | .non,.non=>true | .non,.int _=>true | .int _,.non=>true | .non,.bl _=>true | .bl _,.non=>true | .non,.str _=>true | .str _,.non=>true
 | .int _,.int _=>true | .bl _,.bl _=>true | .str _,.str _=>true | .byt _,.byt _=>true
 | .int _,.str _=>true | .str _,.int _=>true | .bl _,.str _=>true | .str _,.bl _=>true
 | _,_=>false
def rEq:R2:=fun x y H Q=>scal x y=true∧Q (.bl (decide (x=y))) H
def rNe:R2:=fun x y H Q=>scal x y=true∧Q (.bl (!decide (x=y))) H
theorem dec_int {i j:Int}:decide (V.int i=V.int j)=(i == j):=by
 rw [Bool.eq_iff_iff]
 simp
theorem dec_bl {i j:Bool}:decide (V.bl i=V.bl j)=(i == j):=by
 rw [Bool.eq_iff_iff]
 simp
theorem dec_str {i j:Str}:decide (V.str i=V.str j)=(i == j):=by
 rw [Bool.eq_iff_iff]
 simp
theorem dec_byt {i j:Array UInt8}:decide (V.byt i=V.byt j)=(i.toList == j.toList):=by
 rw [Bool.eq_iff_iff]
 cases i
 cases j
 simp
section
variable {X:Cx} {a b c:Expr} {ta tb tc:TE} {pos:Pos}
theorem fin_bl {pins:List (Addr×Obj)} {σ:St} {H:Hp} {s:Shared} {Q:VK} {k k':Bool} (I:Inv X pins σ H s) (q:Q (.bl k) H) (e:k=k'):EP X pins σ Q (.bool k') s:=by
 subst e
 exact ⟨.bl k,H,I,rfl,q⟩
theorem op_eq:OpR X (compareOp .Eq) rEq:=by
 intro pins s σ H x y v u Q I rx ry h
 obtain ⟨hs,q⟩:=h
 cases x with
 | non =>
  cases rx
  cases y with
  | non=>cases ry;exact PySem.EqNone.eq_none_none (fin_bl I q (by simp))
  | bl j=>cases ry;exact PySem.EqNone.eq_none_bool (fin_bl I q (by simp))
  | int j=>obtain ⟨t',rfl⟩:=ry;exact PySem.EqNone.eq_none_int (fin_bl I q (by simp))
  | str j=>obtain ⟨t',rfl⟩:=ry;exact PySem.EqNone.eq_none_str (fin_bl I q (by simp))
  | _=>exact absurd (show false=true from hs) Bool.false_ne_true
 | bl i =>
  cases rx
  cases y with
  | non=>cases ry;exact PySem.EqNone.eq_bool_none (fin_bl I q (by simp))
  | bl j=>cases ry;exact eq_bool (fin_bl I q dec_bl)
  | str j=>obtain ⟨t',rfl⟩:=ry;exact PySem.EqMixed.eq_bool_str (fin_bl I q (by simp))
  | _=>exact absurd (show false=true from hs) Bool.false_ne_true
 | int i =>
  obtain ⟨t,rfl⟩:=rx
  cases y with
  | non=>cases ry;exact PySem.EqNone.eq_int_none (fin_bl I q (by simp))
  | int j=>obtain ⟨t',rfl⟩:=ry;exact eq_int (fin_bl I q dec_int)
  | str j=>obtain ⟨t',rfl⟩:=ry;exact PySem.EqMixed.eq_int_str (fin_bl I q (by simp))
  | _=>exact absurd (show false=true from hs) Bool.false_ne_true
 | str i =>
  obtain ⟨t,rfl⟩:=rx
  cases y with
  | non=>cases ry;exact PySem.EqNone.eq_str_none (fin_bl I q (by simp))
  | bl j=>cases ry;exact PySem.EqMixed.eq_str_bool (fin_bl I q (by simp))
  | int j=>obtain ⟨t',rfl⟩:=ry;exact PySem.EqMixed.eq_str_int (fin_bl I q (by simp))
  | str j=>obtain ⟨t',rfl⟩:=ry;exact eq_str (fin_bl I q dec_str)
  | _=>exact absurd (show false=true from hs) Bool.false_ne_true
 | byt i =>
  obtain ⟨t,rfl⟩:=rx
  cases y with
  | byt j=>obtain ⟨t',rfl⟩:=ry;exact PySem.W.eq_bytes (fin_bl I q dec_byt)
  | _=>exact absurd (show false=true from hs) Bool.false_ne_true
 | _=>cases y <;> exact absurd (show false=true from hs) Bool.false_ne_true
theorem op_ne:OpR X (compareOp .NotEq) rNe:=by
 intro pins s σ H x y v u Q I rx ry h
 obtain ⟨hs,q⟩:=h
 cases x with
 | non =>
  cases rx
  cases y with
  | non=>cases ry;exact PySem.EqNone.ne_none_none (fin_bl I q (by simp))
  | bl j=>cases ry;exact PySem.EqNone.ne_none_bool (fin_bl I q (by simp))
  | int j=>obtain ⟨t',rfl⟩:=ry;exact PySem.EqNone.ne_none_int (fin_bl I q (by simp))
  | str j=>obtain ⟨t',rfl⟩:=ry;exact PySem.EqNone.ne_none_str (fin_bl I q (by simp))
  | _=>exact absurd (show false=true from hs) Bool.false_ne_true
 | bl i =>
  cases rx
  cases y with
  | non=>cases ry;exact PySem.EqNone.ne_bool_none (fin_bl I q (by simp))
  | bl j=>cases ry;exact ne_bool (fin_bl I q (congrArg not dec_bl))
  | str j=>obtain ⟨t',rfl⟩:=ry;exact PySem.EqMixed.ne_bool_str (fin_bl I q (by simp))
  | _=>exact absurd (show false=true from hs) Bool.false_ne_true
 | int i =>
  obtain ⟨t,rfl⟩:=rx
  cases y with
  | non=>cases ry;exact PySem.EqNone.ne_int_none (fin_bl I q (by simp))
  | int j=>obtain ⟨t',rfl⟩:=ry;exact ne_int (fin_bl I q (congrArg not dec_int))
  | str j=>obtain ⟨t',rfl⟩:=ry;exact PySem.EqMixed.ne_int_str (fin_bl I q (by simp))
  | _=>exact absurd (show false=true from hs) Bool.false_ne_true
 | str i =>
  obtain ⟨t,rfl⟩:=rx
  cases y with
  | non=>cases ry;exact PySem.EqNone.ne_str_none (fin_bl I q (by simp))
  | bl j=>cases ry;exact PySem.EqMixed.ne_str_bool (fin_bl I q (by simp))
  | int j=>obtain ⟨t',rfl⟩:=ry;exact PySem.EqMixed.ne_str_int (fin_bl I q (by simp))
  | str j=>obtain ⟨t',rfl⟩:=ry;exact ne_str (fin_bl I q (congrArg not dec_str))
  | _=>exact absurd (show false=true from hs) Bool.false_ne_true
 | byt i =>
  obtain ⟨t,rfl⟩:=rx
  cases y with
  | byt j=>obtain ⟨t',rfl⟩:=ry;exact PySem.W.ne_bytes (fin_bl I q (congrArg not dec_byt))
  | _=>exact absurd (show false=true from hs) Bool.false_ne_true
 | _=>cases y <;> exact absurd (show false=true from hs) Bool.false_ne_true
theorem op_lt:OpR X (compareOp .Lt) (rI0 fun i j=>.bl (decide (i < j))):=opB0 fun _ _ _ _ _ _ _ q=>lt_int q
theorem op_le:OpR X (compareOp .LtE) (rI0 fun i j=>.bl (decide (i≤j))):=opB0 fun _ _ _ _ _ _ _ q=>le_int q
theorem op_gt:OpR X (compareOp .Gt) (rI0 fun i j=>.bl (decide (j < i))):=opB0 fun _ _ _ _ _ _ _ q=>gt_int q
theorem op_isN:OpR X (compareOp .Is) (fun x y H Q=>y=.non∧Q (.bl (decide (x=.non))) H):=by
 intro pins s σ H x y v u Q I rx ry h
 obtain ⟨rfl,q⟩:=h
 cases ry
 refine is_none_gen (fin_bl I q ?_)
 cases x <;> first
  | (cases rx;rfl)
  | (obtain ⟨t,rfl⟩:=rx;rfl)
theorem op_notN:OpR X (compareOp .IsNot) (fun x y H Q=>y=.non∧Q (.bl (!decide (x=.non))) H):=by
 intro pins s σ H x y v u Q I rx ry h
 obtain ⟨rfl,q⟩:=h
 cases ry
 refine isnot_none_gen (fin_bl I q ?_)
 cases x <;> first
  | (cases rx;rfl)
  | (obtain ⟨t,rfl⟩:=rx;rfl)
theorem nomark (b:Expr) {op:CmpOp} (h:op≠.In:=by decide) (h2:op≠.NotIn:=by decide):behindInMarks op b=false:=by
 have e1:(op == CmpOp.In)=false:=by cases op <;> first | rfl | exact absurd rfl h
 have e2:(op == CmpOp.NotIn)=false:=by cases op <;> first | rfl | exact absurd rfl h2
 cases b <;> simp [behindInMarks,e1,e2]
theorem pe_cmpR {op:CmpOp} {r:R2} (ho:OpR X (compareOp op) r) (ha:PE X a ta) (hb:PE X b tb) (hm:behindInMarks op b=false):PE X (.Compare a [op] [b] pos) (tOp r ta tb):=by
 intro pins s σ H Q I h
 exact wpAny_Compare1 (binT ha hb I h fun v u s2 x y H2 I2 rx ry q=>ho pins s2 σ H2 x y v u Q I2 rx ry q) hm
def tTest (t:TE):TT:=fun σ H Q=>t σ H fun x H'=>∃ k,x=.bl k∧Q k H'
theorem pt_cmpR {op:CmpOp} {r:R2} (ho:OpR X (compareOp op) r) (ha:PE X a ta) (hb:PE X b tb) (hm:behindInMarks op b=false):PT X (.Compare a [op] [b] pos) (tTest (tOp r ta tb)):=by
 intro pins s σ H Q I h
 refine wpAny_isTrue_Compare1 (thn (ha pins s σ H _ I h) fun v s1 ⟨x,H1,I1,r1,q1⟩=>thn (hb pins s1 σ H1 _ I1 q1) fun u s2 ⟨y,H2,I2,r2,q2⟩ =>
  thn (ho pins s2 σ H2 x y v u _ I2 r1 r2 q2) fun c s3 ⟨z,H3,I3,r3,k,e,q3⟩=>?_) hm
 subst e
 cases r3
 exact wpAny_truthy_bool ⟨H3,I3,q3⟩
def tChain (r r':R2) (ta tb tc:TE):TE:=fun σ H Q=>ta σ H fun x H1=>tb σ H1 fun y H2=>r x y H2 fun z H3=>∃ k,z=.bl k ∧
 (if k=true then tc σ H3 fun w' H4=>r' y w' H4 Q else Q (.bl false) H3)
theorem pt_chain {op op':CmpOp} {r r':R2} (ho:OpR X (compareOp op) r) (ho':OpR X (compareOp op') r') (ha:PE X a ta) (hb:PE X b tb) (hc:PE X c tc)
  (hm:lastMarks [op,op'] [b,c]=false:=by with_unfolding_all rfl):PT X (.Compare a [op,op'] [b,c] pos) (tTest (tChain r r' ta tb tc)):=by
 intro pins s σ H Q I h
 refine isTrue_chain (thn (ha pins s σ H _ I h) fun v s1 ⟨x,H1,I1,r1,q1⟩=>test_link (thn (hb pins s1 σ H1 _ I1 q1) fun u s2 ⟨y,H2,I2,r2,q2⟩ =>
  thn (ho pins s2 σ H2 x y v u _ I2 r1 r2 q2) fun d s3 ⟨z,H3,I3,r3,k,e,q3⟩=>?_)) hm
 subst e
 cases r3
 refine wpAny_truthy_bool ?_
 cases k with
 | false =>
  obtain ⟨k',e',q'⟩:=q3
  cases e'
  exact ite_ff ⟨H3,I3,q'⟩
 | true =>
  refine ite_tt (test_last (thn (hc pins s3 σ H3 _ I3 q3) fun w' s4 ⟨z',H4,I4,r4,q4⟩=>thn (ho' pins s4 σ H4 y z' u w' _ I4 r2 r4 q4) fun d' s5 ⟨z2,H5,I5,r5,k2,e2,q5⟩=>?_))
  subst e2
  cases r5
  exact wpAny_truthy_bool ⟨H5,I5,q5⟩
theorem line63:(sizeLine:Nat) < 2 ^ 63:=by rw [sizeLine_eq];decide
theorem vals1 {x:V} {us:List Value} (r:Vals [x] us):∃ u,us=[u]∧RelV x u:=by
 cases r with
 | cons r1 r2=>cases r2;exact ⟨_,rfl,r1⟩
theorem vals2 {x y:V} {us:List Value} (r:Vals [x,y] us):∃ u w',us=[u,w']∧RelV x u∧RelV y w':=by
 cases r with
 | cons r1 r2 =>
  cases r2 with
  | cons r3 r4=>cases r4;exact ⟨_,_,rfl,r1,r3⟩
theorem call_str_int:CallR X (.type "str") (fun xs H Q=>∃ i,xs=[.int i]∧i.natAbs.log2 < 1920∧Q (.str (toString i)) H):=by
 intro pins s σ H xs us Q I r h
 obtain ⟨i,rfl,hz,q⟩:=h
 obtain ⟨u,rfl,t,rfl⟩:=vals1 r
 exact PySem.P.str_of_int hz ⟨.str _,H,I.tok _,⟨_,rfl⟩,q⟩
end
end L2
namespace L2
open PySem PySem.Spec PyProof.Rows
structure ObjM (h:Heap) (x dx C:Addr) (mA:Str→Option Value):Prop where
 obj:h.get? x=some (PySem.W.instObj C dx)
 ns:h.Ns1 dx mA
 ne:dx≠x
theorem lookIn_ns {h:Heap} {dx:Addr} {mA:Str→Option Value} (n:h.Ns1 dx mA):∃ od,h.get? dx=some od∧∀ name,PySem.W.lookIn name od=some (mA name):=by
 obtain ⟨o,es,ep,ho,hd,hk,_,hm⟩:=n
 refine ⟨o,ho,fun name=>?_⟩
 have e:=hm name
 unfold nsFind findBy at e
 rw [← Array.find?_toList] at e
 unfold PySem.W.lookIn
 rw [hd]
 dsimp only
 split
 ·rename_i y q
  rw [q] at e
  exact congrArg some e
 ·rename_i q
  rw [q] at e
  have a:es.toList.any (·.refKey)=false:=by
   rw [List.any_eq_false]
   intro y hy
   obtain ⟨z,t,hkey⟩:=hk y (Array.mem_toList_iff.mp hy)
   simp [DictEntry.refKey,hkey]
  have a':¬ es.toList.any (·.refKey)=true:=by rw [a];exact Bool.false_ne_true
  rw [if_neg a']
  exact congrArg some e
theorem ObjM.look {h:Heap} {x dx C:Addr} {mA:Str→Option Value} (I:ObjM h x dx C mA):∃ od,PySem.W.InstAt h x (PySem.W.instObj C dx) C (some od)∧∀ name,PySem.W.lookIn name od=some (mA name) :=
 let ⟨od,ho,hl⟩:=lookIn_ns I.ns
 ⟨od,⟨I.obj,rfl,rfl,ho⟩,hl⟩
section
variable {prog:Program} {w:World} {A:Around} {E:Value→Shared→Prop} {s:Shared} {K:PySem.W.Frag} {x dx C f:Addr} {mA:Str→Option Value} {name:Str} {v:Value}
theorem get_map {expr:Bool} {Q:Value→Shared→Prop} (X:K.In s.heap) (I:ObjM s.heap x dx C mA) (hg:PySem.W.plainGet K C name=true) (hh:PySem.W.hasDictIn K C=true)
  (ha:PySem.W.findIn K (.ref C) name=some none) (hv:mA name=some v) (hv':PySem.W.handedIn v=true) (h:Q v { s with toks:=s.toks+1 }) :
  wpAny (model prog w) A (getAttr (.ref x) name expr) Q E s:=by
 obtain ⟨od,J,hl⟩:=I.look
 exact PySem.W.get_value X J (PySem.W.plainGet_of hg).1 (PySem.W.findObj_own hh ha rfl (by rw [hl,hv])) hv' h
theorem get_meth {pl:Sem Bool} {Q:Value×List Value→Shared→Prop} (X:K.In s.heap) (I:ObjM s.heap x dx C mA) (hg:PySem.W.plainGet K C name=true)
  (hf:PySem.W.findIn K (.ref C) name=some (some (.ref f))) (ht:PySem.W.isFn K (.ref f)=true) (hv:mA name=none) (h:Q (.ref f,[.ref x]) s) :
  wpAny (model prog w) A (getMethod (.ref x) name pl) Q E s:=by
 obtain ⟨od,J,hl⟩:=I.look
 exact PySem.W.method_fn X J (PySem.W.plainGet_of hg).1 (PySem.W.plainGet_of hg).2 hf (beq_iff_eq.mp ht) (by show (PySem.W.lookIn name od).map (·.isSome)=some false;rw [hl,hv];rfl) h
theorem set_map {ns:List Str} {Q:Unit→Shared→Prop} (X:K.In s.heap) (I:ObjM s.heap x dx C mA)
  (hs:PySem.W.findIn K (.ref C) "__setattr__"=some (some (.builtin "object.__setattr__"))) (hp:PySem.W.plainOver K C=true) (ht:PySem.W.takerIn K C name=some none) (hh:PySem.W.hasDictIn K C=true)
  (hw:PySem.Within mA ns) (hsz:ns.length≤sizeLine)
  (h:∀ h',ObjM h' x dx C (fun y=>if y=name then some v else mA y)→Heap.SameBut dx s.heap h'→Q () { s with heap:=h',toks:=s.toks+2 }) :
  wpAny (model prog w) A (setAttr (.ref x) name v) Q E s:=by
 obtain ⟨od,J,hl⟩:=I.look
 refine PySem.W.set_plain X J hs (PySem.W.osa_open (s:={ s with toks:=s.toks+1 }) (r:=none) X J hp ht fun b=>?_)
 obtain ⟨cd,hc,hd'⟩:=PySem.W.any_some hh
 have hx:s.heap.get? x=some ⟨.ref C,some dx,.plain,#[]⟩:=I.obj
 refine wpAny_bind (wpAny_pure (wpAny_bind (wpAny_bind (wpAny_loadPart hx (wpAny_bind (PySem.W.Looks.here (s:={ s with toks:=s.toks+1 }) (PySem.W.looks_clsIn X hc) ?_))))))
 rw [hd']
 refine wpAny_pure (a:=some dx) (wpAny_bind (wpAny_pure (wpAny_bind ?_)))
 refine wpAny_nsSet1 (s:={ s with toks:=s.toks+1 }) I.ns fun h' hn2 hs2=>?_
 obtain ⟨oD,esD,epD,hoD,hdD,hcD⟩:=hn2.count (PySem.Within.cons name v hw)
 refine wpAny_bind (wpAny_lookBehind hoD (by rw [hdD];exact pastItsLine_dict (Nat.le_trans hcD (by rw [List.length_cons];omega))) ?_)
 exact wpAny_pure (h _ ⟨(hs2.2 _ (Ne.symm I.ne)).trans I.obj,hn2,I.ne⟩ hs2)
theorem make_map {R:Result→Shared→Prop} {vs:List Value} {kw:List (Str×Value)} (X:K.In s.heap) (hm:PySem.W.makesIn K C=true)
  (hi:PySem.W.findIn K (.ref C) "__init__"=some (some (.ref f))) (hf:PySem.W.typeIn K (.ref f)=some (.type "function"))
  (h:codeAny (model prog w) (A.under (.builtin "type.__call__" ⟨.ref C :: vs,kw⟩)) (.call (.ref f) ⟨.ref (s.heap.objs.size+1) :: vs,kw⟩) (PySem.W.InitBack (s.heap.objs.size+1) R)
   { s with heap:=(s.heap.push PySem.W.emptyDict).push (PySem.W.instObj C s.heap.objs.size) }) :
  codeAny (model prog w) A (.call (.ref C) ⟨vs,kw⟩) R s:=by
 obtain ⟨hh,g,d,t,os⟩:=s
 exact PySem.W.make_core (PySem.W.makes_of X hm) (PySem.W.looks_findIn X hi) (fun self=>PySem.W.bind_fn X self hf) (.inl rfl) h
end
def putF (f:Str) (v:V):List (Str×V)→List (Str×V)
 | []=>[(f,v)]
 | (g,x) :: r=>if g=f then (g,v) :: r else (g,x) :: putF f v r
theorem lookup_putF (f g:Str) (v:V):∀ fs:List (Str×V),(putF f v fs).lookup g=if g=f then some v else fs.lookup g
 | []=>by
  show List.lookup g [(f,v)]=_
  by_cases h:g=f
  ·have hb:(g == f)=true:=beq_iff_eq.mpr h
   simp only [List.lookup,hb,if_pos h]
  ·have hb:(g == f)=false:=beq_eq_false_iff_ne.mpr h
   simp only [List.lookup,hb,if_neg h]
 | (k,x) :: r=>by
  have ih:=lookup_putF f g v r
  rw [show putF f v ((k,x) :: r)=(if k=f then (k,v) :: r else (k,x) :: putF f v r) from rfl]
  by_cases hk:k=f
  ·rw [if_pos hk]
   by_cases h:g=k
   ·have hb:(g == k)=true:=beq_iff_eq.mpr h
    simp only [List.lookup,hb,if_pos (h.trans hk)]
   ·have hb:(g == k)=false:=beq_eq_false_iff_ne.mpr h
    simp only [List.lookup,hb,if_neg (fun e:g=f=>h (e.trans hk.symm))]
  ·rw [if_neg hk]
   by_cases h:g=k
   ·have hb:(g == k)=true:=beq_iff_eq.mpr h
    simp only [List.lookup,hb,if_neg (fun e:g=f=>hk (h.symm.trans e))]
   ·have hb:(g == k)=false:=beq_eq_false_iff_ne.mpr h
    simp only [List.lookup,hb]
    exact ih
theorem keys_putF (f:Str) (v:V):∀ fs:List (Str×V),f∈(putF f v fs).map (·.1)∧∀ g,g∈fs.map (·.1)→g∈(putF f v fs).map (·.1)
 | []=>⟨by simp [putF],fun g h=>by simp at h⟩
 | (k,x) :: r=>by
  obtain ⟨i1,i2⟩:=keys_putF f v r
  rw [show putF f v ((k,x) :: r)=(if k=f then (k,v) :: r else (k,x) :: putF f v r) from rfl]
  by_cases hk:k=f
  ·rw [if_pos hk]
   subst hk
   exact ⟨by simp,fun g h=>by simpa using h⟩
  ·rw [if_neg hk]
   refine ⟨?_,fun g h=>?_⟩
   ·rw [List.map_cons]
    exact List.mem_cons_of_mem _ i1
   ·rw [List.map_cons] at h ⊢
    rcases List.mem_cons.mp h with e | e
    ·exact List.mem_cons.mpr (.inl e)
    ·exact List.mem_cons_of_mem _ (i2 g e)
theorem length_putF (f:Str) (v:V):∀ fs:List (Str×V),(putF f v fs).length≤fs.length+1
 | []=>by simp [putF]
 | (k,x) :: r=>by
  have ih:=length_putF f v r
  rw [show putF f v ((k,x) :: r)=(if k=f then (k,v) :: r else (k,x) :: putF f v r) from rfl]
  by_cases hk:k=f
  ·rw [if_pos hk,List.length_cons,List.length_cons];omega
  ·rw [if_neg hk,List.length_cons,List.length_cons];omega
theorem RelO.some_of {v:V} {o:Option Value} (r:RelO (some v) o):∃ u,o=some u∧RelV v u:=by
 cases o with
 | none=>exact (show False from r).elim
 | some u=>exact ⟨u,rfl,r⟩
theorem RelO.none_of {o:Option Value} (r:RelO none o):o=none:=by
 cases o with
 | none=>rfl
 | some u=>exact (show False from r).elim
theorem handed_of {v:V} {u:Value} (r:RelV v u):PySem.W.handedIn u=true:=by
 cases v with
 | non=>cases (show u=Value.none from r);rfl
 | bl b=>cases (show u=Value.bool b from r);rfl
 | int i=>obtain ⟨t,e⟩:=(show ∃ t,u=Value.int i t from r);cases e;rfl
 | str x=>obtain ⟨t,e⟩:=(show ∃ t,u=Value.str x t from r);cases e;rfl
 | byt b=>obtain ⟨t,e⟩:=(show ∃ t,u=Value.bytes b t from r);cases e;rfl
 | flt b=>obtain ⟨t,e⟩:=(show ∃ t,u=Value.float b t from r);cases e;rfl
 | ref a=>cases (show u=Value.ref a from r);rfl
 | ty n=>cases (show u=Value.type n from r);rfl
section
variable {P:Program} {w:World} {H H':Hp} {h h':Heap} {a C dx:Addr} {fs fs':List (Str×V)}
theorem ins_get (hok:HOk P w H h) (e:H a=some (.ins C dx fs)):∃ mA,ObjM h a dx C mA∧(∀ f,RelO (fs.lookup f) (mA f))∧PySem.Within mA (fs.map (·.1))∧fs.length≤1000∧H dx=some (.own a):=by
 obtain ⟨d,z,ne,ob,mA,n,r,q⟩:=(show ObjOk P w H h a (.ins C dx fs) from hok a _ e)
 exact ⟨mA,⟨ob,n,ne⟩,r,q,z,d⟩
end
structure Cls (K:PySem.W.Frag) (C:Addr):Prop where
 pg:PySem.W.plainGet K C Str.empty=true
 hd:PySem.W.hasDictIn K C=true
 po:PySem.W.plainOver K C=true
 sa:PySem.W.findIn K (.ref C) "__setattr__"=some (some (.builtin "object.__setattr__"))
theorem Cls.get {K:PySem.W.Frag} {C:Addr} (c:Cls K C) (f:Str):PySem.W.plainGet K C f=true:=c.pg
def NoAttr (K:PySem.W.Frag) (C:Addr) (f:Str):Prop:=PySem.W.findIn K (.ref C) f=some none
theorem NoAttr.taker {K:PySem.W.Frag} {C:Addr} {f:Str} (n:NoAttr K C f):PySem.W.takerIn K C f=some none:=by
 unfold PySem.W.takerIn
 rw [show PySem.W.findIn K (.ref C) f=some none from n]
 rfl
structure Meth (K:PySem.W.Frag) (C:Addr) (m:Str) (f:Addr):Prop where
 at_:PySem.W.findIn K (.ref C) m=some (some (.ref f))
 fn:PySem.W.isFn K (.ref f)=true
 kp:PySem.W.keepIn K (.ref f)=true
section
variable {X:Cx} {pins:List (Addr×Obj)} {σ:St} {H:Hp} {s:Shared} {a C dx:Addr} {fs:List (Str×V)} {f:Str} {v:V} {A:Around} {E:Value→Shared→Prop}
theorem getattr_ok {b:Bool} {Q:Value→Shared→Prop} (I:Inv X pins σ H s) (e:H a=some (.ins C dx fs)) (c:Cls X.K C) (n:NoAttr X.K C f) (l:fs.lookup f=some v)
  (h:∀ u s',Inv X pins σ H s'→RelV v u→Q u s'):wpAny (model X.prog X.w) A (getAttr (.ref a) f b) Q E s:=by
 obtain ⟨mA,O,r,_,_,_⟩:=ins_get I.hok e
 obtain ⟨u,hu,ru⟩:=RelO.some_of (v:=v) (o:=mA f) (by rw [← l];exact r f)
 exact get_map I.kIn O (c.get f) c.hd n hu (handed_of ru) (h u _ (I.tok _) ru)
theorem getmeth_ok {m:Str} {g:Addr} {pl:Sem Bool} {Q:Value×List Value→Shared→Prop} (I:Inv X pins σ H s) (e:H a=some (.ins C dx fs)) (c:Cls X.K C) (k:Meth X.K C m g) (l:fs.lookup m=none)
  (h:Q (.ref g,[.ref a]) s):wpAny (model X.prog X.w) A (getMethod (.ref a) m pl) Q E s:=by
 obtain ⟨mA,O,r,_,_,_⟩:=ins_get I.hok e
 have hn:mA m=none:=RelO.none_of (by rw [← l];exact r m)
 exact get_meth I.kIn O (c.get m) k.at_ k.fn hn h
theorem setattr_ok {y:V} {u:Value} {Q:Unit→Shared→Prop} (I:Inv X pins σ H s) (e:H a=some (.ins C dx fs)) (c:Cls X.K C) (n:NoAttr X.K C f) (hl:fs.length < 1000) (ry:RelV y u)
  (h:∀ s',Inv X pins σ (upd H a (.ins C dx (putF f y fs))) s'→Q () s'):wpAny (model X.prog X.w) A (setAttr (.ref a) f u) Q E s:=by
 obtain ⟨mA,O,r,wi,_,ho⟩:=ins_get I.hok e
 have hz:(fs.map (·.1)).length≤sizeLine:=by rw [List.length_map,sizeLine_eq];omega
 refine set_map I.kIn O c.sa c.po n.taker c.hd wi hz fun h' O' sb=>h _ ?_
 have hd:∃ o,h'.get? dx=some o:=let ⟨o,_,_,e',_⟩:=O'.ns;⟨o,e'⟩
 refine I.write (x:=a) (e:=dx) (by rw [e];exact True.intro) (.inr ho) (fun b q hb z=>(sb.2 b hb).trans z) hd ?_
 refine ⟨by rw [upd_ne O.ne];exact ho,?_,O.ne,O'.obj,_,O'.ns,fun g=>?_,fun g hg=>?_⟩
 ·have:=length_putF f y fs;omega
 ·show RelO ((putF f y fs).lookup g) (if g=f then some u else mA g)
  rw [lookup_putF]
  by_cases q:g=f
  ·rw [if_pos q,if_pos q];exact ry
  ·rw [if_neg q,if_neg q];exact r g
 ·by_cases q:g=f
  ·rw [q];exact (keys_putF f y fs).1
  ·refine (keys_putF f y fs).2 g (wi g fun z=>hg ?_)
   show (if g=f then some u else mA g)=none
   rw [if_neg q];exact z
theorem Inv.made (I:Inv X pins σ H s):Inv X pins σ (upd (upd H s.heap.objs.size (.own (s.heap.objs.size+1))) (s.heap.objs.size+1) (.ins C s.heap.objs.size []))
  { s with heap:=(s.heap.push PySem.W.emptyDict).push (PySem.W.instObj C s.heap.objs.size) }:=by
 have e1:(s.heap.push PySem.W.emptyDict).get? s.heap.objs.size=some PySem.W.emptyDict:=Heap.get?_push_size s.heap rfl
 have e2:((s.heap.push PySem.W.emptyDict).push (PySem.W.instObj C s.heap.objs.size)).get? (s.heap.objs.size+1)=some (PySem.W.instObj C s.heap.objs.size):=by
  have:=Heap.get?_push_size (s.heap.push PySem.W.emptyDict) (o:=PySem.W.instObj C s.heap.objs.size) rfl
  rwa [Heap.size_push] at this
 have e3:(s.heap.push PySem.W.emptyDict).Ns s.heap.objs.size (fun _=>none):=⟨PySem.W.emptyDict,#[],_,e1,rfl,(fun e he=>absurd he (by simp)),fun _=>rfl⟩
 have I1:=I.laid (a:=s.heap.objs.size) (o:=.own (s.heap.objs.size+1)) (h':=s.heap.push PySem.W.emptyDict) (t':=s.toks) (fun b u q=>Heap.get?_push_of_some _ q) (Nat.le_refl _) ⟨_,e1⟩
 refine I1.laid (a:=s.heap.objs.size+1) (o:=.ins C s.heap.objs.size []) (t':=s.toks) (fun b u q=>Heap.get?_push_of_some _ q) (Nat.le_of_eq (Heap.size_push _ _)) ?_
 have ne:s.heap.objs.size≠s.heap.objs.size+1:=Nat.ne_of_lt (Nat.lt_succ_self _)
 refine ⟨by rw [upd_ne ne,upd_same],Nat.zero_le _,ne,e2,fun _=>none,(Heap.Ns1.of_empty e3).at fun o q=>Heap.get?_push_of_some _ q,fun _=>True.intro,fun y hy=>absurd rfl hy⟩
theorem attr_of {prog:Program} {w:World} {env:Env} {e:Expr} {f:Str} {pos:Pos} {s:Shared} {Q:Value→Shared→Prop} (hb:attributeBase e f env (eval e env)=eval e env)
  (h:wpAny (model prog w) A (eval e env) (fun o s₁=>wpAny (model prog w) A (getAttr o f true) Q E s₁) E s):wpAny (model prog w) A (eval (.Attribute e f pos) env) Q E s :=
 Attribute_any_ h (by rw [arm_eval_Attribute,hb])
end
def tFld (K:PySem.W.Frag) (ta:TE) (f:Str):TE:=fun σ H Q=>ta σ H fun x H1=>∃ a C dx fs v,x=.ref a∧H1 a=some (.ins C dx fs)∧Cls K C∧NoAttr K C f∧fs.lookup f=some v∧Q v H1
def sFld (K:PySem.W.Frag) (ta tv:TE) (f:Str):TS:=fun D σ H=>tv σ H fun y H1=>ta σ H1 fun x H2=>∃ a C dx fs,x=.ref a∧H2 a=some (.ins C dx fs)∧Cls K C∧NoAttr K C f∧fs.length < 1000 ∧
 D.nx σ (upd H2 a (.ins C dx (putF f y fs)))
def InOp (X:Cx) (op:Operator) (rd:V→V→Hp→VK→Prop):Prop :=
 ∀ (pins:List (Addr×Obj)) (s:Shared) (σ:St) (H:Hp) (x y:V) (u v:Value) (Q:VK),Inv X pins σ H s→RelV x u→RelV y v→rd x y H Q→wpAny (model X.prog X.w) X.A (inplaceOp op u v) (EP X pins σ Q) X.xe s
def sFldAug (K:PySem.W.Frag) (ta tv:TE) (rd:V→V→Hp→VK→Prop) (f:Str):TS:=fun D σ H=>ta σ H fun x H1=>∃ a C dx fs v,x=.ref a∧H1 a=some (.ins C dx fs)∧Cls K C∧NoAttr K C f∧fs.lookup f=some v ∧
 tv σ H1 fun y H2=>rd v y H2 fun z H3=>∃ dx' fs',H3 a=some (.ins C dx' fs')∧fs'.length < 1000∧D.nx σ (upd H3 a (.ins C dx' (putF f z fs')))
section
variable {X:Cx} {o e value:Expr} {f:Str} {pos pos' tpos:Pos} {ta tv:TE}
theorem pe_fld (he:PE X e ta) (hb:attributeBase e f X.env (eval e X.env)=eval e X.env):PE X (.Attribute e f pos) (tFld X.K ta f):=by
 intro pins s σ H Q I h
 refine attr_of hb (thn (he pins s σ H _ I h) fun u s1 ⟨x,H1,I1,rx,a,C,dx,fs,v,ex,ea,c,n,l,q⟩=>?_)
 subst ex
 obtain rfl:u=Value.ref a:=rx
 exact getattr_ok I1 ea c n l fun u' s2 I2 ru=>⟨v,H1,I2,ru,q⟩
theorem ps_fld (ha:PE X o ta) (hv:PE X value tv) (hs:swapsWith value (some (.Attribute o f pos')) pos.line X.env=pure false):PS X (.Assign [.Attribute o f pos'] value pos) (sFld X.K ta tv f):=by
 intro pins s σ H D I h
 refine plainObj_wpAny_Assign_Attribute (thn (hv pins s σ H _ I h) fun u s1 ⟨y,H1,I1,ry,q⟩=>thn (ha pins s1 σ H1 _ I1 q) fun ov s2 ⟨x,H2,I2,rx,a,C,dx,fs,ex,ea,c,n,l,q2⟩=>?_) hs
 subst ex
 obtain rfl:ov=Value.ref a:=rx
 exact setattr_ok I2 ea c n l ry fun s3 I3=>⟨σ,_,I3,q2⟩
theorem ps_fldaug {op:Operator} {rd:V→V→Hp→VK→Prop} (ha:PE X o ta) (hv:PE X value tv) (hop:InOp X op rd):PS X (.AugAssign (.Attribute o f tpos) op value pos) (sFldAug X.K ta tv rd f):=by
 intro pins s σ H D I h
 refine wpAny_AugAssign_AttributeAny (thn (ha pins s σ H _ I h) fun ov s1 ⟨x,H1,I1,rx,a,C,dx,fs,v,ex,ea,c,n,l,q⟩=>?_)
 subst ex
 obtain rfl:ov=Value.ref a:=rx
 refine getattr_ok I1 ea c n l fun u s2 I2 ru=>thn (hv pins s2 σ H1 _ I2 q) fun w3 s3 ⟨y,H2,I3,ry,q3⟩=>thn (hop pins s3 σ H2 v y u w3 _ I3 ru ry q3) fun w4 s4 ⟨z,H3,I4,rz,dx',fs',ea',l',q4⟩=>?_
 exact setattr_ok I4 ea' c n l' rz fun s5 I5=>⟨σ,_,I5,q4⟩
def rAdd:V→V→Hp→VK→Prop:=fun x y H Q=>∃ i j,x=.int i∧y=.int j∧Q (.int (i+j)) H
theorem in_add:InOp X .Add rAdd:=by
 rintro pins s σ H x y u v Q I rx ry ⟨i,j,rfl,rfl,q⟩
 obtain ⟨t,rfl⟩:=(show ∃ t,u=Value.int i t from rx)
 obtain ⟨t',rfl⟩:=(show ∃ t',v=Value.int j t' from ry)
 exact PyProof.Rows.iadd_int ⟨.int (i+j),H,I.tok _,⟨_,rfl⟩,q⟩
end
end L2
namespace L2
open PySem PySem.Spec PyProof.Rows
structure Room (k:Nat) (A:Around):Prop where
 hd:A.handled=none
 dp:A.depth+3 * k+5 < recursionLimit
 un:A.units+16 * k+200 < cLine
theorem Room.mono {j k:Nat} {A:Around} (r:Room k A) (h:j≤k):Room j A:=⟨r.hd,by have:=r.dp;omega,by have:=r.un;omega⟩
theorem Room.deeper {k:Nat} {A:Around} (r:Room (k+1) A) (env:Env):Room k (A.deeper env) :=
 ⟨r.hd,by have:=r.dp;show A.depth+1+3 * k+5 < _;omega,by have:=r.un;show A.units+3+16 * k+200 < _;omega⟩
theorem make_depth {A:Around} {C:Addr} {us:List Value} {kw:List (Str×Value)}:(A.under (.builtin "type.__call__" ⟨.ref C :: us,kw⟩)).depth=A.depth+1:=by
 first | rfl | simp [Around.under,Code.weight,Code.isCreation,Code.isGuard,Code.isCaller,Code.frames,Code.isFrame,guardIds]
theorem make_units {A:Around} {C:Addr} {us:List Value} {kw:List (Str×Value)}:(A.under (.builtin "type.__call__" ⟨.ref C :: us,kw⟩)).units=A.units+1:=by
 first | rfl | simp [Around.under,Code.cUnits,Code.frames,Code.isFrame]
theorem Room.make {k:Nat} {A:Around} (r:Room (k+1) A) (C:Addr) (us:List Value) (kw:List (Str×Value)):Room k (A.under (.builtin "type.__call__" ⟨.ref C :: us,kw⟩)) :=
 ⟨r.hd,by have:=r.dp;rw [make_depth];omega,by have:=r.un;rw [make_units];omega⟩
theorem Room.depth {k:Nat} {A:Around} (r:Room k A):A.depth < recursionLimit:=by have:=r.dp;omega
theorem Room.units {k:Nat} {A:Around} (r:Room k A):A.units+64 < cLine:=by have:=r.un;omega
def tNil:TA:=fun _ H Q=>Q [] H
def tCons (ta:TE) (tr:TA):TA:=fun σ H Q=>ta σ H fun x H1=>tr σ H1 fun xs H2=>Q (x :: xs) H2
section
variable {X:Cx} {e:Expr} {es:List Expr} {te:TE} {t:TA} {pos:Pos}
theorem pa_nil:PA X [] tNil:=fun _ _ _ _ H Q I h=>Calls.spliced_nil ⟨[],H,I,.nil,h⟩
theorem pa_cons (ha:PE X e te) (hr:PA X es t) (hs:starEach (e :: es) X.env=(false,eval e X.env) :: starEach es X.env:=by rfl):PA X (e :: es) (tCons te t):=by
 intro pos pins s σ H Q I h
 rw [hs]
 show wpAny _ _ (spliced ((false,eval e X.env) :: backTo pos (starEach es X.env))) _ _ s
 refine Calls.spliced_cons (thn (ha pins s σ H _ I h) fun u s1 ⟨x,H1,I1,r1,q1⟩=>?_)
 exact thn (hr pos pins s1 σ H1 _ I1 q1) fun us s2 ⟨xs,H2,I2,r2,q2⟩=>⟨x :: xs,H2,I2,.cons r1 r2,q2⟩
def tTup (t:TA):TE:=fun σ H Q=>t σ H fun xs H1=>xs.length≤sizeLine∧∀ p,H1 p=none→Q (.ref p) (upd H1 p (.tup xs))
def tLst (t:TA):TE:=fun σ H Q=>t σ H fun xs H1=>xs.length≤sizeLine∧∀ p,H1 p=none→Q (.ref p) (upd H1 p (.lst xs))
theorem pe_tup {x1} (h:PA X es t):PE X (.Tuple es x1 pos) (tTup t):=by
 intro pins s σ H Q I hq
 refine wpAny_Tuple_spliced (thn (h pos pins s σ H _ I hq) fun us s1 ⟨xs,H1,I1,r,z,q⟩=>⟨by rw [← r.length];exact z,?_⟩)
 have hf:H1 s1.heap.objs.size=none:=I1.hok.fresh (Nat.le_refl _)
 refine ⟨.ref s1.heap.objs.size,upd H1 s1.heap.objs.size (.tup xs),I1.laid (t':=s1.toks) (fun b u e=>Heap.get?_push_of_some _ e) (Nat.le_refl _) ?_,rfl,q _ hf⟩
 exact ⟨z,us,r,⟨_,Heap.get?_push_size _ rfl,rfl,_,rfl⟩⟩
theorem pe_lst (h:PA X es t):PE X (.List es pos) (tLst t):=by
 intro pins s σ H Q I hq
 refine wpAny_List_spliced (thn (h pos pins s σ H _ I hq) fun us s1 ⟨xs,H1,I1,r,z,q⟩=>⟨by rw [← r.length];exact z,?_⟩)
 have hf:H1 s1.heap.objs.size=none:=I1.hok.fresh (Nat.le_refl _)
 refine ⟨.ref s1.heap.objs.size,upd H1 s1.heap.objs.size (.lst xs),I1.laid (t':=s1.toks) (fun b u e=>Heap.get?_push_of_some _ e) (Nat.le_refl _) ?_,rfl,q _ hf⟩
 exact ⟨z,us,0,r,Heap.get?_push_size _ rfl⟩
end
abbrev Sp:=List V→Hp→VK→XK→Prop
abbrev CXT:=List Env→Hp→Shared→XK→Value→Shared→Prop
structure Env0 (P:Program) (w:World) (K:PySem.W.Frag) (mg:Str→Option Value) (base:Heap) (A:Around) (outer:List Env) (s:Shared) (H:Hp):Prop where
 frames:A.frames=some outer
 mod:Mod K mg base
 bs:∀ b o,base.get? b=some o→s.heap.get? b=some o∧H b=none
 bsz:base.objs.size≤s.heap.objs.size
 funs:s.heap.FunFrames base outer
 frf:∀ b∈frs outer,H b=none
 hok:HOk P w H s.heap
 bare:AllBare s.gens
def CE (outer:List Env) (P:Program) (w:World) (H:Hp) (s:Shared) (Q:VK) (u:Value) (s':Shared):Prop :=
 ∃ v H',s'.os=s.os∧AllBare s'.gens∧Un (frs outer) [] H H' s.heap s'.heap∧HOk P w H' s'.heap∧RelV v u∧Q v H'
def CR (CX:CXT) (outer:List Env) (P:Program) (w:World) (H:Hp) (s:Shared) (Q:VK) (E:XK) (r:Result) (s':Shared):Prop :=
 match r with
 | .ok (.ret u)=>CE outer P w H s Q u s'
 | .ok _=>False
 | .error e=>CX outer H s E e s'
structure FnOk (P:Program) (w:World) (K:PySem.W.Frag) (mg:Str→Option Value) (base:Heap) (CX:CXT) (k:Nat) (f:Addr) (fd:FuncData) (ps:List Str) (sp:Sp):Prop where
 len:∀ vs H Q E,sp vs H Q E→vs.length=ps.length
 run:∀ (A:Around) (outer:List Env) (s:Shared) (H:Hp) (args:Args) (us:List Value) (vs:List V) (Q:VK) (E:XK),Room k A→Env0 P w K mg base A outer s H→BindsTo s fd args (ps.zip us)→Vals vs us→sp vs H Q E →
  codeAny (model P w) A (.call (.ref f) args) (CR CX outer P w H s Q E) s
theorem Env0.make {P:Program} {w:World} {K:PySem.W.Frag} {mg:Str→Option Value} {base:Heap} {A:Around} {outer:List Env} {s:Shared} {H:Hp} (e:Env0 P w K mg base A outer s H) (C:Addr) (us:List Value) (kw:List (Str×Value)) :
  Env0 P w K mg base (A.under (.builtin "type.__call__" ⟨.ref C :: us,kw⟩)) outer s H:=⟨by first | exact e.frames | (simpa [Around.under,Code.envs,Code.isFrame,pushEnvs] using e.frames),e.mod,e.bs,e.bsz,e.funs,e.frf,e.hok,e.bare⟩
section
variable {X:Cx} {pins:List (Addr×Obj)} {σ:St} {H:Hp} {s s':Shared}
theorem Inv.env0 (I:Inv X pins σ H s):Env0 X.prog X.w X.K X.mg X.base X.A X.stack s H :=
 ⟨I.ok.frames,I.ok.mod,I.bs,Nat.le_trans I.ok.bsz I.sz,I.stack,I.stkFree,I.hok,I.bare⟩
theorem Inv.after {Q:VK} {u:Value} (I:Inv X pins σ H s) (h:CE X.stack X.prog X.w H s Q u s'):EP X pins σ Q u s':=by
 obtain ⟨v,H',os,bare,un,hok,r,q⟩:=h
 obtain ⟨hh,g,d,t,os'⟩:=s'
 obtain rfl:os'=s.os:=os
 exact ⟨v,H',I.call (h':=hh) (g':=g) (d':=d) (t':=t) (ch:=[]) un hok bare (fun b z=>absurd z (by simp)),r,q⟩
end
def tCall (sp:Sp) (dvs:List V) (E:XK) (t:TA):TE:=fun σ H Q=>t σ H fun vs H1=>sp (vs++dvs) H1 Q E
def tMeth (C:Addr) (m:Str) (sp:Sp) (dvs:List V) (E:XK) (ta:TE) (t:TA):TE:=fun σ H Q=>ta σ H fun x H1=>∃ a dx fs,x=.ref a∧H1 a=some (.ins C dx fs)∧fs.lookup m=none ∧
 t σ H1 fun vs H2=>sp (x :: (vs++dvs)) H2 Q E
def tMake (C:Addr) (sp:Sp) (dvs:List V) (E:XK) (t:TA):TE:=fun σ H Q=>t σ H fun vs H1=>∀ x dx,H1 x=none→H1 dx=none→dx≠x →
 sp (.ref x :: (vs++dvs)) (upd (upd H1 dx (.own x)) x (.ins C dx [])) (fun v H2=>v=.non∧Q (.ref x) H2) E
def Binds (K:PySem.W.Frag) (fd:FuncData) (ps:List Str) (ds:List Value):Prop :=
 ∀ (s:Shared) (us:List Value),K.In s.heap→(us++ds).length=ps.length→BindsTo s fd ⟨us,[]⟩ (ps.zip (us++ds))
theorem Binds.all {K:PySem.W.Frag} {fd:FuncData} {ps:List Str} (h:∀ us:List Value,us.length=ps.length→bindArgs fd ⟨us,[]⟩=pure (ps.zip us)):Binds K fd ps []:=fun s us _ hl=>by
 rw [List.append_nil] at hl ⊢
 exact .of_eq (h us hl)
def Passes (CX:CXT) (X:Cx) (E:XK):Prop:=∀ (pins:List (Addr×Obj)) (σ:St) (H:Hp) (s:Shared) (e:Value) (s':Shared),Inv X pins σ H s→CX X.stack H s E e s'→X.xe e s'
section
variable {X:Cx} {CX:CXT} {k:Nat} {f C:Addr} {fd:FuncData} {ps:List Str} {sp:Sp} {dvs:List V} {ds:List Value} {E:XK} {x m:Str} {p pos apos:Pos} {e o:Expr} {es:List Expr} {ta:TE} {t:TA}
theorem run_fn {pins:List (Addr×Obj)} {σ:St} {H:Hp} {s:Shared} {Q:VK} {us:List Value} {vs:List V} (F:FnOk X.prog X.w X.K X.mg X.base CX k f fd ps sp) (hr:Room k X.A) (hb:Binds X.K fd ps ds) (hd:Vals dvs ds) (hx:Passes CX X E)
  (I:Inv X pins σ H s) (r:Vals vs us) (h:sp (vs++dvs) H Q E):wpAny (model X.prog X.w) X.A (call (.ref f) us) (EP X pins σ Q) X.xe s:=by
 have r2:Vals (vs++dvs) (us++ds):=r.append hd
 have hl:(us++ds).length=ps.length:=by rw [← r2.length];exact F.len _ _ _ _ h
 refine wpAny_call (codeAny_mono (F.run X.A X.stack s H ⟨us,[]⟩ (us++ds) (vs++dvs) Q E hr I.env0 (hb s us I.kIn hl) r2 h) fun r s' hq=>?_)
 cases r with
 | error e=>exact hx pins σ H s e s' I hq
 | ok fl =>
  cases fl with
  | ret u=>exact I.after hq
  | next=>exact False.elim hq
  | brk=>exact False.elim hq
  | cont=>exact False.elim hq
theorem pe_call (F:FnOk X.prog X.w X.K X.mg X.base CX k f fd ps sp) (hr:Room k X.A) (hg:Gl X x) (hm:X.mg x=some (.ref f)) (hk:PySem.W.keepIn X.K (.ref f)=true) (hb:Binds X.K fd ps ds) (hd:Vals dvs ds) (hx:Passes CX X E)
  (ha:PA X (e :: es) t) (hdb:(x == ("__debug__":Str))=false:=by decide) (he:starEach (e :: es) X.env=(false,eval e X.env) :: starEach es X.env:=by rfl) (hpl:(backTo pos (starEach es X.env)).any (·.1)=false:=by rfl) :
  PE X (.Call (.Name x p) (e :: es) [] pos) (tCall sp dvs E t):=by
 intro pins s σ H Q I h
 refine wpAny_Call_Name_kw (ld_glob I hg hm ?_ hdb)
 refine PySem.W.callWith_K (h₀:=X.base) I.ok.mod.kin hk (thn (ha pos pins s σ H _ I h) fun us s1 ⟨vs,H1,I1,r,q⟩=>⟨I1.kIn,?_⟩) he hpl
 exact run_fn F hr hb hd hx I1 r q
theorem pe_call0 (F:FnOk X.prog X.w X.K X.mg X.base CX k f fd ps sp) (hr:Room k X.A) (hg:Gl X x) (hm:X.mg x=some (.ref f)) (hk:PySem.W.keepIn X.K (.ref f)=true) (hb:Binds X.K fd ps ds) (hd:Vals dvs ds) (hx:Passes CX X E)
  (hdb:(x == ("__debug__":Str))=false:=by decide):PE X (.Call (.Name x p) [] [] pos) (tCall sp dvs E tNil):=by
 intro pins s σ H Q I h
 refine wpAny_Call_Name_kw (ld_glob I hg hm ?_ hdb)
 exact PySem.W.callWith_K0 I.kIn hk (run_fn (us:=[]) F hr hb hd hx I .nil h)
theorem pe_meth {pl:Sem Bool} (he:PE X o ta) (c:Cls X.K C) (hm:Meth X.K C m f) (F:FnOk X.prog X.w X.K X.mg X.base CX k f fd ps sp) (hr:Room k X.A) (hb:Binds X.K fd ps ds) (hd:Vals dvs ds) (hx:Passes CX X E) (ha:PA X (e :: es) t)
  (hst:starEach (e :: es) X.env=(false,eval e X.env) :: starEach es X.env:=by rfl) (hpl:(backTo pos (starEach es X.env)).any (·.1)=false:=by rfl)
  (ht:eval (.Call (.Attribute o m apos) (e :: es) [] pos) X.env=(do
   let ov ← eval o X.env
   standAt apos.atName
   let (f,first) ← holding [ov] (getMethod ov m pl)
   callWith pos f first (backTo pos (starEach (e :: es) X.env)) (backToKw pos (keywordEach [] X.env))):=by rfl) :
  PE X (.Call (.Attribute o m apos) (e :: es) [] pos) (tMeth C m sp dvs E ta t):=by
 intro pins s σ H Q I h
 refine PySem.W.methodCall_KW (pl:=pl) (thn (he pins s σ H _ I h) fun u s1 ⟨x,H1,I1,rx,a,dx,fs,ex,ea,l,q⟩=>?_) ht
 subst ex
 obtain rfl:u=Value.ref a:=rx
 refine getmeth_ok I1 ea c hm l ?_
 refine PySem.W.callWith_K (first:=[.ref a]) (h₀:=X.base) I.ok.mod.kin hm.kp (thn (ha pos pins s1 σ H1 _ I1 q) fun us s2 ⟨vs,H2,I2,r,q2⟩=>⟨I2.kIn,?_⟩) hst hpl
 exact run_fn (us:=.ref a :: us) (vs:=.ref a :: vs) F hr hb hd hx I2 (.cons rfl r) q2
theorem pe_meth0 {pl:Sem Bool} (he:PE X o ta) (c:Cls X.K C) (hm:Meth X.K C m f) (F:FnOk X.prog X.w X.K X.mg X.base CX k f fd ps sp) (hr:Room k X.A) (hb:Binds X.K fd ps ds) (hd:Vals dvs ds) (hx:Passes CX X E)
  (ht:eval (.Call (.Attribute o m apos) [] [] pos) X.env=(do
   let ov ← eval o X.env
   standAt apos.atName
   let (f,first) ← holding [ov] (getMethod ov m pl)
   callWith pos f first (backTo pos (starEach [] X.env)) (backToKw pos (keywordEach [] X.env))):=by rfl) :
  PE X (.Call (.Attribute o m apos) [] [] pos) (tMeth C m sp dvs E ta tNil):=by
 intro pins s σ H Q I h
 refine PySem.W.methodCall_KW (pl:=pl) (thn (he pins s σ H _ I h) fun u s1 ⟨x,H1,I1,rx,a,dx,fs,ex,ea,l,q⟩=>?_) ht
 subst ex
 obtain rfl:u=Value.ref a:=rx
 refine getmeth_ok I1 ea c hm l ?_
 exact PySem.W.callWith_K0 (first:=[.ref a]) I1.kIn hm.kp (run_fn (us:=[.ref a]) (vs:=[.ref a]) F hr hb hd hx I1 (.cons rfl .nil) q)
structure Mk (K:PySem.W.Frag) (C f:Addr):Prop where
 makes:PySem.W.makesIn K C=true
 init:PySem.W.findIn K (.ref C) "__init__"=some (some (.ref f))
 fn:PySem.W.isFn K (.ref f)=true
 kp:PySem.W.keepIn K (.ref C)=true
theorem run_make {pins:List (Addr×Obj)} {σ:St} {H:Hp} {s:Shared} {Q:VK} {us:List Value} {vs:List V} (M:Mk X.K C f) (F:FnOk X.prog X.w X.K X.mg X.base CX k f fd ps sp) (hr:Room (k+1) X.A) (hb:Binds X.K fd ps ds) (hd:Vals dvs ds)
  (hx:Passes CX X E) (I:Inv X pins σ H s) (r:Vals vs us)
  (h:∀ x dx,H x=none→H dx=none→dx≠x→sp (.ref x :: (vs++dvs)) (upd (upd H dx (.own x)) x (.ins C dx [])) (fun v H2=>v=.non∧Q (.ref x) H2) E) :
  wpAny (model X.prog X.w) X.A (call (.ref C) us) (EP X pins σ Q) X.xe s:=by
 have hq:=h (s.heap.objs.size+1) s.heap.objs.size (I.hok.fresh (Nat.le_succ _)) (I.hok.fresh (Nat.le_refl _)) (Nat.ne_of_lt (Nat.lt_succ_self _))
 have I2:=Inv.made (C:=C) I
 have r2:Vals (V.ref (s.heap.objs.size+1) :: (vs++dvs)) (Value.ref (s.heap.objs.size+1) :: (us++ds)):=.cons rfl (r.append hd)
 have hl:(Value.ref (s.heap.objs.size+1) :: us++ds).length=ps.length:=by
  have e:=r2.length
  rw [F.len _ _ _ _ hq] at e
  exact e.symm
 refine wpAny_call (make_map (f:=f) I.kIn M.makes M.init (beq_iff_eq.mp M.fn) (codeAny_mono (F.run _ X.stack _ _ ⟨Value.ref (s.heap.objs.size+1) :: us,[]⟩ (Value.ref (s.heap.objs.size+1) :: (us++ds)) _ _ E (hr.make C us [])
  (I2.env0.make C us []) (hb _ (Value.ref (s.heap.objs.size+1) :: us) I2.kIn hl) r2 hq) fun r s' hq'=>?_))
 cases r with
 | error e=>exact hx pins σ _ _ e s' I2 hq'
 | ok fl =>
  cases fl with
  | ret u =>
   obtain ⟨v,H',I3,rv,ev,q3⟩:=I2.after hq'
   subst ev
   exact ⟨rv,⟨V.ref (s.heap.objs.size+1),H',I3,rfl,q3⟩⟩
  | next=>exact False.elim hq'
  | brk=>exact False.elim hq'
  | cont=>exact False.elim hq'
theorem pe_make (M:Mk X.K C f) (F:FnOk X.prog X.w X.K X.mg X.base CX k f fd ps sp) (hr:Room (k+1) X.A) (hg:Gl X x) (hm:X.mg x=some (.ref C)) (hb:Binds X.K fd ps ds) (hd:Vals dvs ds) (hx:Passes CX X E)
  (ha:PA X (e :: es) t) (hdb:(x == ("__debug__":Str))=false:=by decide) (he:starEach (e :: es) X.env=(false,eval e X.env) :: starEach es X.env:=by rfl) (hpl:(backTo pos (starEach es X.env)).any (·.1)=false:=by rfl) :
  PE X (.Call (.Name x p) (e :: es) [] pos) (tMake C sp dvs E t):=by
 intro pins s σ H Q I h
 refine wpAny_Call_Name_kw (ld_glob I hg hm ?_ hdb)
 refine PySem.W.callWith_K (h₀:=X.base) I.ok.mod.kin M.kp (thn (ha pos pins s σ H _ I h) fun us s1 ⟨vs,H1,I1,r,q⟩=>⟨I1.kIn,?_⟩) he hpl
 exact run_make M F hr hb hd hx I1 r q
end
structure FnScope (N P:List Str) (sc:Scope):Prop where
 kind:sc.kind=.function
 co:sc.isCoroutine=false
 gen:sc.isGenerator=false
 nd:N.Nodup
 pre:N.take P.length=P
 par:∀ x∈P,sc.names.lookup x=some .local∨sc.names.lookup x=some .cell
 nofree:∀ y∈sc.names,y.2≠.free
theorem bindL_out {kindOf:Str→Option NameKind} {x:Str}:∀ {binds:List (Str×Value)} {m:Str→Option Value},(∀ v,(x,v)∉binds)→bindL kindOf binds m x=m x
 | [],_,_=>rfl
 | (n,v) :: r,m,h=>by
  unfold bindL
  rw [bindL_out fun w hw=>h w (List.mem_cons_of_mem _ hw)]
  split
  ·have:x≠n:=by rintro rfl;exact h v List.mem_cons_self
   simp [this]
  ·rfl
theorem bindC_out {kindOf:Str→Option NameKind} {x:Str}:∀ {binds:List (Str×Value)} {m:Str→Option Value},(∀ v,(x,v)∉binds)→bindC kindOf binds m x=m x
 | [],_,_=>rfl
 | (n,v) :: r,m,h=>by
  unfold bindC
  rw [bindC_out fun w hw=>h w (List.mem_cons_of_mem _ hw)]
  split
  ·rfl
  ·have:x≠n:=by rintro rfl;exact h v List.mem_cons_self
   simp [this]
theorem bindL_get {kindOf:Str→Option NameKind} {x:Str} {v:Value}:∀ {P:List Str} {vs:List Value} {i:Nat} {m:Str→Option Value},P.Nodup→P[i]?=some x→vs[i]?=some v→kindOf x=some .local →
  bindL kindOf (P.zip vs) m x=some v
 | [],_,_,_,_,h,_,_=>by simp at h
 | _ :: _,[],_,_,_,_,h,_=>by simp at h
 | p :: P,w :: vs,0,m,nd,h1,h2,hk=>by
  simp at h1 h2;subst h1;subst h2
  show bindL kindOf ((p,w) :: P.zip vs) m p=_
  unfold bindL
  rw [bindL_out fun v hv=>(List.nodup_cons.mp nd).1 (List.of_mem_zip hv).1,if_pos hk]
  simp
 | p :: P,w :: vs,i+1,m,nd,h1,h2,hk=>by
  show bindL kindOf ((p,w) :: P.zip vs) m x=_
  unfold bindL
  exact bindL_get (i:=i) (List.nodup_cons.mp nd).2 (by simpa using h1) (by simpa using h2) hk
theorem bindC_get {kindOf:Str→Option NameKind} {x:Str} {v:Value}:∀ {P:List Str} {vs:List Value} {i:Nat} {m:Str→Option Value},P.Nodup→P[i]?=some x→vs[i]?=some v→kindOf x≠some .local →
  bindC kindOf (P.zip vs) m x=some v
 | [],_,_,_,_,h,_,_=>by simp at h
 | _ :: _,[],_,_,_,_,h,_=>by simp at h
 | p :: P,w :: vs,0,m,nd,h1,h2,hk=>by
  simp at h1 h2;subst h1;subst h2
  show bindC kindOf ((p,w) :: P.zip vs) m p=_
  unfold bindC
  rw [bindC_out fun v hv=>(List.nodup_cons.mp nd).1 (List.of_mem_zip hv).1,if_neg hk]
  simp
 | p :: P,w :: vs,i+1,m,nd,h1,h2,hk=>by
  show bindC kindOf ((p,w) :: P.zip vs) m x=_
  unfold bindC
  exact bindC_get (i:=i) (List.nodup_cons.mp nd).2 (by simpa using h1) (by simpa using h2) hk
def start (N:List Str) (vs:List V):St:=vs.map some++List.replicate (N.length - vs.length) none
def cxOf (CX:CXT) (P:Program) (w:World) (K:PySem.W.Frag) (mg:Str→Option Value) (base:Heap) (N:List Str) (qual:Str) (scope:Scope) (f:Addr) (cd:Value) (A:Around) (outer:List Env) (s:Shared) (H:Hp) (E:XK):Cx where
 prog:=P
 w:=w
 K:=K
 mg:=mg
 base:=base
 A:=A.deeper (envOfC qual scope s.heap.objs.size f cd)
 N:=N
 s₀:=s
 H₀:=H
 env:=envOfC qual scope s.heap.objs.size f cd
 outer:=outer
 stack:=envOfC qual scope s.heap.objs.size f cd :: outer
 ex:=[]
 calm:=true
 fn:=fun _=>true
 pn:=[]
 xe:=fun e s'=>wpAny (model P w) (A.deeper (envOfC qual scope s.heap.objs.size f cd)) (leaving (envOfC qual scope s.heap.objs.size f cd) e) (fun _ s''=>CX outer H s E e s'') (fun e' s''=>CX outer H s E e' s'') s'
theorem cell_has {sc:Scope} {n:Nat} {x:Str} (h:sc.names.lookup x=some .cell):∃ c,(cellsFrom n sc.names []).lookup x=some c:=by
 have q:=PySem.W.cellsFrom_some sc.names n [] (.inl h)
 exact Option.isSome_iff_exists.mp q
theorem inv_start {CX:CXT} {P:Program} {w:World} {K:PySem.W.Frag} {mg:Str→Option Value} {base:Heap} {N ps:List Str} {qual:Str} {scope:Scope} {f:Addr} {cd:Value} {A:Around} {outer:List Env} {s s1:Shared} {H:Hp} {E:XK} {us:List Value} {vs:List V}
  (S:FnScope N ps scope) (hd:A.handled=none) (e0:Env0 P w K mg base A outer s H) (hl:vs.length=ps.length) (r:Vals vs us)
  (x:InCallC s s.heap.objs.size (bindL (envOfC qual scope s.heap.objs.size f cd).kindOf (ps.zip us) fun _=>none) (cellsFrom (s.heap.objs.size+1) scope.names []) (bindC (envOfC qual scope s.heap.objs.size f cd).kindOf (ps.zip us) fun _=>none) s1) :
  Inv (cxOf CX P w K mg base N qual scope f cd A outer s H E) [] (start N vs) H s1:=by
 have hpl:ps.length≤N.length:=by have:=congrArg List.length S.pre;rw [List.length_take] at this;omega
 obtain ⟨h1,tk,rfl,hk⟩:=x.done
 have noA:∀ b:Addr,b∉(cxOf CX P w K mg base N qual scope f cd A outer s H E).ex:=fun b z=>absurd (show b∈([]:List Addr) from z) (by simp)
 refine ⟨⟨e0.mod,S.kind,rfl,rfl,Nat.le_refl _,fun y z c h1 h2=>?_,fun y hy=>?_,fun y c _ h=>?_,fun _=>hd,Around.frames_deeper e0.frames,.inr ⟨rfl,rfl⟩,fun b z=>absurd z (noA b),e0.bs,e0.bsz,fun b _ _=>noA b,fun b z=>absurd z (noA b),e0.funs,e0.frf⟩,
  rfl,e0.bare,Un.kept hk,⟨_,x.toInCall.ns,fun i y v h1 h2 h3=>?_⟩,fun y c h=>⟨_,x.cell y c h⟩,e0.hok.fresh (Nat.le_refl _),fun y c h=>?_,fun p hp=>absurd (show p∈([]:List (Addr×Obj)) from hp) (by simp),e0.hok.kept hk,?_⟩
 ·exact name_of_addr x.apart (PySem.mem_of_lookup h1) (PySem.mem_of_lookup h2)
 ·have hy:scope.names.lookup y=some .cell∨scope.names.lookup y=some .free:=hy
  rcases hy with hy | hy
  ·exact cell_has hy
  ·exact absurd rfl (S.nofree _ (PySem.mem_of_lookup hy))
 ·exact Nat.le_of_lt (x.above y c (PySem.mem_of_lookup h))
 ·have hi:i < vs.length:=by
   unfold start at h2
   by_cases hi:i < vs.length
   ·exact hi
   ·rw [List.getElem?_append_right (by simpa using hi)] at h2
    rw [List.getElem?_replicate] at h2
    split at h2 <;> cases h2
  have ha:vs[i]?=some v:=by
   unfold start at h2
   rw [List.getElem?_append_left (by simpa using hi),List.getElem?_map] at h2
   cases e:vs[i]? with
   | none=>rw [e] at h2;cases h2
   | some a=>rw [e] at h2;cases h2;rfl
  obtain ⟨u,hu,rv⟩:=r.get ha
  have hp:ps[i]?=some y:=by
   rw [← S.pre,List.getElem?_take_of_lt (by omega)];exact h1
  have ndP:ps.Nodup:=by rw [← S.pre];exact S.nd.sublist (List.take_sublist _ _)
  refine ⟨u,rv,?_⟩
  rcases S.par y (List.mem_of_getElem? hp) with k | k
  ·exact .inl ⟨k,bindL_get ndP hp hu k⟩
  ·obtain ⟨c,e⟩:=cell_has (n:=s.heap.objs.size+1) k
   refine .inr ⟨.inl k,c,e,?_⟩
   have q:=x.cell y c e
   rw [bindC_get ndP hp hu (by show scope.names.lookup y≠_;rw [k];decide)] at q
   exact q
 ·exact e0.hok.fresh (Nat.le_of_lt (x.above y c (PySem.mem_of_lookup h)))
 ·unfold start
  show _=N.length
  rw [List.length_append,List.length_map,List.length_replicate]
  omega
theorem fn_of {CX:CXT} {P:Program} {w:World} {K:PySem.W.Frag} {mg:Str→Option Value} {base:Heap} {k:Nat} {f:Addr} {name qual:Str} {params:Arguments} {body:List Stmt} {scope:Scope} {dV kV doc pm cdv ct oc:Value} {an od:Option Addr}
  {osl:Array (Option Value)} {N ps:List Str} {sp:Sp} (lk:K.lookup f=some ⟨oc,od,.func (PySem.W.fnOf name qual params body scope dV kV doc pm an cdv ct),osl⟩) (hcd:PySem.W.codeIn K cdv qual=true) (S:FnScope N ps scope)
  (len:∀ vs H Q E,sp vs H Q E→vs.length=ps.length)
  (hbody:∀ (A:Around) (outer:List Env) (s:Shared) (H:Hp) (vs:List V) (Q:VK) (E:XK),Room k (A.deeper (envOfC qual scope s.heap.objs.size f cdv))→sp vs H Q E →
   ∃ t,PSs (cxOf CX P w K mg base N qual scope f cdv A outer s H E) body t∧t { nx:=fun _ H'=>Q .non H',rt:=Q } (start N vs) H) :
  FnOk P w K mg base CX (k+1) f (PySem.W.fnOf name qual params body scope dV kV doc pm an cdv ct) ps sp:=by
 refine ⟨len,fun A outer s H args us vs Q E hr e0 hb r hsp=>?_⟩
 have hl:=len _ _ _ _ hsp
 have KX:K.In s.heap:=e0.mod.kin.keeps fun b o e=>(e0.bs b o e).1
 have lim:s.heap.NoLimit:=e0.mod.nolimit.keeps fun b o e=>(e0.bs b o e).1
 have hkind:∀ y∈ps.zip us,scope.names.lookup y.1=some .local∨(scope.names.lookup y.1=some .cell∧((cellsFrom (s.heap.objs.size+1) scope.names []).lookup y.1).isSome=true):=fun ⟨n,v⟩ hy=>by
  rcases S.par n (List.of_mem_zip hy).1 with q | q
  ·exact .inl q
  ·exact .inr ⟨q,PySem.W.cellsFrom_some _ _ _ (.inl q)⟩
 refine codeAny_call_function hr.depth (KX _ _ lk) rfl S.co S.gen rfl (PySem.W.codeRec_of KX hcd) (hb _ _ _ _ ?_)
 refine wpAny_newFunctionEnv_cells S.kind hkind fun env he s1 x=>?_
 subst he
 refine ⟨lim.keeps x.toInCall.keep,codeAny_func ?_⟩
 obtain ⟨t,ht,hq⟩:=hbody A outer s H vs Q E (hr.deeper _) hsp
 have I:Inv (cxOf CX P w K mg base N qual scope f cdv A outer s H E) [] (start N vs) H s1:=inv_start S hr.hd e0 hl r x
 refine wpAny_mono (ht [] s1 (start N vs) H _ I hq) (fun fl s' hs=>?_) fun e s' hs=>hs
 have fin:∀ {σ':St} {H':Hp} {v:V} {u:Value},Inv (cxOf CX P w K mg base N qual scope f cdv A outer s H E) [] σ' H' s'→RelV v u→Q v H'→CE outer P w H s Q u s' :=
  fun {σ' H' v u} J rv q=>⟨v,H',J.os,J.bare,J.base,J.hok,rv,q⟩
 cases fl with
 | ret u =>
  obtain ⟨v,σ',H',J,rv,q⟩:=hs
  exact fin J rv q
 | next =>
  obtain ⟨σ',H',J,q⟩:=hs
  exact fin (v:=V.non) (u:=Value.none) J rfl q
 | brk =>
  obtain ⟨_,_,_,q⟩:=hs
  exact False.elim q
 | cont =>
  obtain ⟨_,_,_,q⟩:=hs
  exact False.elim q
end L2
namespace L2
open PySem PySem.Spec PyProof.Rows
section
variable {X:Cx} {x:Str} {p pos:Pos} {e:Expr} {es:List Expr} {t:TA} {id T:String} {r:List V→Hp→VK→Prop}
def tCB (r:List V→Hp→VK→Prop) (t:TA):TE:=fun σ H Q=>t σ H fun vs H1=>r vs H1 Q
theorem pe_callB (hc:CallR X (.builtin id) r) (hg:Gl X x) (hm:X.mg x=none) (hv:bootBuiltins x=some (.builtin id)) (ha:PA X (e :: es) t) (hn:x≠"__name__":=by decide) (hdb:(x == ("__debug__":Str))=false:=by decide)
  (he:starEach (e :: es) X.env=(false,eval e X.env) :: starEach es X.env:=by rfl) (hpl:(backTo pos (starEach es X.env)).any (·.1)=false:=by rfl):PE X (.Call (.Name x p) (e :: es) [] pos) (tCB r t):=by
 intro pins s σ H Q I h
 refine wpAny_Call_Name_kw (ld_blt I hg hm hv ?_ hn hdb)
 exact PyProof.Rows.callWith_builtin1 (thn (ha pos pins s σ H _ I h) fun us s1 ⟨vs,H1,I1,r1,q1⟩=>hc pins s1 σ H1 vs us Q I1 r1 q1) he hpl
theorem pe_callTy (hc:CallR X (.type T) r) (hg:Gl X x) (hm:X.mg x=none) (hv:bootBuiltins x=some (.type T)) (ha:PA X (e :: es) t) (hn:x≠"__name__":=by decide) (hdb:(x == ("__debug__":Str))=false:=by decide)
  (he:starEach (e :: es) X.env=(false,eval e X.env) :: starEach es X.env:=by rfl) (hpl:(backTo pos (starEach es X.env)).any (·.1)=false:=by rfl):PE X (.Call (.Name x p) (e :: es) [] pos) (tCB r t):=by
 intro pins s σ H Q I h
 refine wpAny_Call_Name_kw (ld_blt I hg hm hv ?_ hn hdb)
 exact PyProof.Rows.callWith_type1 (thn (ha pos pins s σ H _ I h) fun us s1 ⟨vs,H1,I1,r1,q1⟩=>hc pins s1 σ H1 vs us Q I1 r1 q1) he hpl
end
end L2
namespace HT
open PySem PyProof.Rows
section
open PySem.SeqAt
open PySem.AutoSeq1 (wpAny_loadPart')
open PySem.MeetsSeq PySem.MeetsSeq2 PySem.MeetsSeq3
end
section
variable {prog:Program} {w:World} {A:Around} {E:Value→Shared→Prop} {s:Shared}
def sIx (n d:Nat):Option Int→Nat
 | none=>d
 | some v=>if v < 0 then (v+(n:Int)).toNat else min v.toNat n
end
end HT
namespace L2
open PySem PySem.Spec PyProof.Rows
abbrev TO:=St→Hp→(Option Int→Hp→Prop)→Prop
def PO (X:Cx) (e:Option Expr) (t:TO):Prop :=
 ∀ (pins:List (Addr×Obj)) (s:Shared) (σ:St) (H:Hp) (Q:Option Int→Hp→Prop),Inv X pins σ H s→t σ H Q →
  wpAny (model X.prog X.w) X.A (evalPart e X.env) (fun u s'=>∃ o H',Inv X pins σ H' s'∧IsPart u o∧Q o H') X.xe s
def tNoPart:TO:=fun _ H Q=>Q none H
def tPart (t:TE):TO:=fun σ H Q=>t σ H fun x H1=>∃ i,x=.int i∧Q (some i) H1
theorem intsAre_of {ns:List Int}:∀ {us:List Value},Vals (ns.map V.int) us→IntsAre us ns:=by
 induction ns with
 | nil=>intro us r;rw [List.map_nil] at r;cases r;exact .nil
 | cons n ns ih =>
  intro us r
  rw [List.map_cons] at r
  cases r with
  | cons r1 r2 =>
   obtain ⟨t,e⟩:=r1
   subst e
   exact .cons n t (ih r2)
section
variable {X:Cx} {e:Expr} {te:TE} {lo hi:Option Expr} {tl th:TO} {pos p2:Pos}
theorem po_none:PO X none tNoPart:=by
 intro pins s σ H Q I h
 rw [evalPart_none]
 exact wpAny_pure ⟨none,H,I,.none,h⟩
theorem po_some (h:PE X e te):PO X (some e) (tPart te):=by
 intro pins s σ H Q I hw
 rw [evalPart_some]
 refine thn (h pins s σ H _ I hw) fun u s1 ⟨x,H1,I1,r1,q1⟩=>?_
 obtain ⟨i,rfl,q⟩:=q1
 obtain ⟨t,rfl⟩:=r1
 exact ⟨some i,H1,I1,.int i t,q⟩
def SlR (X:Cx) (r:V→Option Int→Option Int→Hp→VK→Prop):Prop :=
 ∀ (pins:List (Addr×Obj)) (s:Shared) (σ:St) (H:Hp) (x:V) (v vl vu:Value) (lo hi:Option Int) (sl:Addr) (Q:VK),Inv X pins σ H s→RelV x v→s.heap.IsSliceOf sl vl vu .none→IsPart vl lo→IsPart vu hi→r x lo hi H Q →
  ∃ T id,typeLookup (.type T) "__getitem__"=pure (some (.builtin id))∧s.TypeIs v T∧wpAny (model X.prog X.w) X.A (getItem v (.ref sl)) (EP X pins σ Q) X.xe s
def tSl (r:V→Option Int→Option Int→Hp→VK→Prop) (te:TE) (tl th:TO):TE:=fun σ H Q=>te σ H fun x H1=>tl σ H1 fun l H2=>th σ H2 fun u H3=>r x l u H3 Q
theorem pe_slice {r:V→Option Int→Option Int→Hp→VK→Prop} (hr:SlR X r) (he:PE X e te) (hl:PO X lo tl) (hu:PO X hi th):PE X (.Subscript e (.Slice lo hi none p2) pos) (tSl r te tl th):=by
 intro pins s σ H Q I h
 refine Subscript_ (thn (he pins s σ H _ I h) fun v s1 ⟨x,H1,I1,r1,q1⟩=>?_)
 refine wpAny_Slice (thn (hl pins s1 σ H1 _ I1 q1) fun vl s2 ⟨l,H2,I2,pl,q2⟩=>thn (hu pins s2 σ H2 _ I2 q2) fun vu s3 ⟨u,H3,I3,pu,q3⟩=>?_)
 rw [evalPart_none]
 refine wpAny_pure ?_
 have I4:Inv X pins σ H3 { s3 with heap:=s3.heap.push { cls:=.type "slice",data:=.fields #[vl,vu,.none] } }:=I3.kept (t':=s3.toks) fun b ob q=>Heap.get?_push_of_some _ q
 obtain ⟨T,id,hT,ht,hg⟩:=hr pins { s3 with heap:=s3.heap.push { cls:=.type "slice",data:=.fields #[vl,vu,.none] } } σ H3 x v vl vu l u s3.heap.objs.size Q I4 r1 (Heap.IsSliceOf.new ..) pl pu q3
 show wpAny (model X.prog X.w) X.A (subscriptTail e (.Slice lo hi none p2) v (.ref s3.heap.objs.size)) (EP X pins σ Q) X.xe { s3 with heap:=s3.heap.push { cls:=.type "slice",data:=.fields #[vl,vu,.none] } }
 exact tail_any (ops:=[.ref s3.heap.objs.size,v]) ht hT hg (by with_unfolding_all rfl)
def cutV (xs:List V) (lo hi:Option Int):List V:=(xs.drop (HT.sIx xs.length 0 lo)).take (HT.sIx xs.length xs.length hi - HT.sIx xs.length 0 lo)
theorem cutV_length (xs:List V) (lo hi:Option Int):(cutV xs lo hi).length≤xs.length:=by
 unfold cutV
 rw [List.length_take,List.length_drop]
 omega
end
end L2
namespace L2
open PySem PySem.Spec PyProof.Rows
def ixN (n:Nat) (i:Int):Option Nat:=if 0≤i then (if i < n then some i.toNat else none) else if -(n:Int)≤i then some (i+n).toNat else none
def atI {α:Type} (xs:List α) (i:Int):Option α:=(ixN xs.length i).bind fun j=>xs[j]?
theorem ixN_seq {n:Nat} {i:Int} {j:Nat} (h:ixN n i=some j):seqIndex? i n=some j∧j < n∧-(n:Int)≤i∧i < n:=by
 unfold ixN at h
 by_cases h0:0≤i
 ·rw [if_pos h0] at h
  by_cases h1:i < n
  ·rw [if_pos h1] at h
   have e:i.toNat=j:=Option.some.inj h
   exact ⟨by rw [seqIndex_of h0 h1,e],by omega,by omega,h1⟩
  ·rw [if_neg h1] at h;cases h
 ·rw [if_neg h0] at h
  by_cases h1:-(n:Int)≤i
  ·rw [if_pos h1] at h
   have e:(i+n).toNat=j:=Option.some.inj h
   exact ⟨by rw [seqIndex_neg (by omega) h1,e],by omega,h1,by omega⟩
  ·rw [if_neg h1] at h;cases h
theorem atI_get {α:Type} {xs:List α} {i:Int} {v:α} (h:atI xs i=some v):∃ j,seqIndex? i xs.length=some j∧xs[j]?=some v∧j < xs.length∧-(xs.length:Int)≤i∧i < xs.length:=by
 unfold atI at h
 cases e:ixN xs.length i with
 | none=>rw [e] at h;cases h
 | some j =>
  rw [e] at h
  obtain ⟨h1,h2,h3,h4⟩:=ixN_seq e
  exact ⟨j,h1,h,h2,h3,h4⟩
theorem atI_nat {α:Type} {xs:List α} {j:Nat} {v:α} (h:xs[j]?=some v):atI xs (j:Int)=some v:=by
 have hj:j < xs.length:=(List.getElem?_eq_some_iff.mp h).1
 have e:ixN xs.length (j:Int)=some j:=by
  unfold ixN
  rw [if_pos (by omega),if_pos (by omega)];simp
 unfold atI;rw [e];exact h
theorem atI_last {α:Type} (xs:List α) (v:α):atI (xs++[v]) (-1)=some v:=by
 have hl:(xs++[v]).length=xs.length+1:=by simp
 have e:ixN (xs++[v]).length (-1)=some xs.length:=by
  unfold ixN
  rw [hl,if_neg (by decide),if_pos (by omega)]
  congr 1
  omega
 unfold atI
 rw [e]
 show (xs++[v])[xs.length]?=some v
 simp
def PlainIx (b:Expr):Prop:=∀ o i,subscripted b false o i=operate [o,i] (getItem o i)
def IxR (X:Cx) (r:R2):Prop :=
 ∀ (value slice:Expr) (pins:List (Addr×Obj)) (s:Shared) (σ:St) (H:Hp) (x y:V) (v u:Value) (Q:VK),Inv X pins σ H s→RelV x v→RelV y u→r x y H Q →
  subscripted slice false v u=operate [v,u] (getItem v u)→wpAny (model X.prog X.w) X.A (subscriptTail value slice v u) (EP X pins σ Q) X.xe s
def MtR (X:Cx) (id:String) (r:V→List V→Hp→VK→Prop):Prop :=
 ∀ (pins:List (Addr×Obj)) (s:Shared) (σ:St) (H:Hp) (x:V) (xs:List V) (v:Value) (us:List Value) (Q:VK),Inv X pins σ H s→RelV x v→Vals xs us→r x xs H Q →
  wpAny (model X.prog X.w) X.A (call (.builtin id) (v :: us)) (EP X pins σ Q) X.xe s
section
variable {X:Cx} {a b:Expr} {ta tb:TE} {pos:Pos}
theorem pe_ix {r:R2} (hr:IxR X r) (ha:PE X a ta) (hb:PE X b tb) (hs:PlainIx b):PE X (.Subscript a b pos) (tOp r ta tb):=by
 intro pins s σ H Q I h
 exact Subscript_ (binT ha hb I h fun v u s2 x y H2 I2 rx ry q=>hr a b pins s2 σ H2 x y v u Q I2 rx ry q (hs _ _))
def rIxL (K:PySem.W.Frag):R2:=fun x y H Q=>∃ p xs i v,x=.ref p∧y=.int i∧SqL K H p xs∧atI xs i=some v∧Q v H
def rIxT (K:PySem.W.Frag):R2:=fun x y H Q=>∃ p xs i v,x=.ref p∧y=.int i∧SqT K H p xs∧atI xs i=some v∧Q v H
theorem ix_list:IxR X (rIxL X.K):=by
 intro value slice pins s σ H x y v u Q I rx ry h hs
 obtain ⟨p,xs,i,z,rfl,rfl,hq,he,q⟩:=h
 cases rx
 obtain ⟨t,rfl⟩:=ry
 obtain ⟨its,r,pl,hz⟩:=I.list hq
 obtain ⟨j,h1,h2,h3,h4,h5⟩:=atI_get he
 obtain ⟨w,ew,rw'⟩:=r.get h2
 have hl:=r.length
 have hn:=line63
 have fin:EP X pins σ Q w s:=⟨z,H,I,rw',q⟩
 by_cases h0:0≤i
 ·have hj:i.toNat=j:=by
   rw [seqIndex_of h0 h5] at h1
   exact Option.some.inj h1
  exact item_listR pl.isList h0 (by omega) (by rw [hj];simpa using ew) fin hs
 ·have hj:(i+(its.toArray.size:Int)).toNat=j:=by
   rw [seqIndex_neg (by omega) h4] at h1
   rw [List.size_toArray,← hl]
   exact Option.some.inj h1
  exact subscriptTail_builtinR (x:=w) pl.isList.typeIs slot_list_getitem.lookup
   (wpAny_getItem_list_neg (Q:=fun r s'=>r=w∧EP X pins σ Q r s') pl.isList (by omega) (by rw [List.size_toArray] <;> omega) (by omega) (by rw [hj];simpa using ew) ⟨rfl,fin⟩) hs
theorem ix_tup:IxR X (rIxT X.K):=by
 intro value slice pins s σ H x y v u Q I rx ry h hs
 obtain ⟨p,xs,i,z,rfl,rfl,hq,he,q⟩:=h
 cases rx
 obtain ⟨t,rfl⟩:=ry
 obtain ⟨its,r,pl,hz⟩:=I.tuple hq
 obtain ⟨j,h1,h2,h3,h4,h5⟩:=atI_get he
 obtain ⟨w,ew,rw'⟩:=r.get h2
 have hl:=r.length
 have hn:=line63
 have fin:EP X pins σ Q w s:=⟨z,H,I,rw',q⟩
 exact subscriptTail_builtinR (x:=w) pl.typeIs slot_tuple_getitem.lookup
  (getItem_tuple (j:=j) (Q:=fun r s'=>r=w∧EP X pins σ Q r s') pl (by omega) (by omega) (by rw [List.size_toArray,← hl];exact h1) (by simpa using ew) ⟨rfl,fin⟩) hs
theorem slice_bounds (lo hi:Option Int) (n:Nat):(sliceBounds lo hi none n).1=((HT.sIx n 0 lo:Nat):Int)∧(sliceBounds lo hi none n).2.1=((HT.sIx n n hi:Nat):Int)∧(sliceBounds lo hi none n).2.2=1:=by
 refine ⟨?_,?_,rfl⟩
 ·cases lo with
  | none=>simp [sliceBounds,HT.sIx]
  | some i =>
   simp only [sliceBounds,HT.sIx,Option.getD_none,show (1:Int) > 0 by decide,if_true]
   by_cases h:i < 0
   ·simp only [h,if_true] <;> omega
   ·simp only [h,if_false] <;> omega
 ·cases hi with
  | none=>simp [sliceBounds,HT.sIx]
  | some i =>
   simp only [sliceBounds,HT.sIx,Option.getD_none,show (1:Int) > 0 by decide,if_true]
   by_cases h:i < 0
   ·simp only [h,if_true] <;> omega
   ·simp only [h,if_false] <;> omega
theorem slicePick_cut (its:List Value) (lo hi:Option Int):slicePick its.toArray lo hi none=((its.drop (HT.sIx its.length 0 lo)).take (HT.sIx its.length its.length hi - HT.sIx its.length 0 lo)).toArray:=by
 obtain ⟨h1,h2,h3⟩:=slice_bounds lo hi its.toArray.size
 unfold slicePick
 rw [h1,h2,h3]
 simp only [sliceRange_one,pick_run,List.size_toArray] <;> rfl
def rSlL (K:PySem.W.Frag):V→Option Int→Option Int→Hp→VK→Prop:=fun x lo hi H Q=>∃ a xs,x=.ref a∧SqL K H a xs∧∀ p,H p=none→Q (.ref p) (upd H p (.lst (cutV xs lo hi)))
theorem sl_list:SlR X (rSlL X.K):=by
 intro pins s σ H x v vl vu lo hi sl Q I rx hs pl pu h
 obtain ⟨a,xs,rfl,hx,q⟩:=h
 cases rx
 obtain ⟨its,r,ht,hz⟩:=I.list hx
 have hlen:=r.length
 refine ⟨"list",_,slot_list_getitem.lookup,ht.isList.typeIs,?_⟩
 refine wpAny_getItem_list_slice ht.isList hs pl pu .none (by simp) ?_ (by rw [List.size_toArray] <;> omega)
 rw [slicePick_cut,← hlen]
 refine ⟨.ref s.heap.objs.size,_,I.laid (t':=s.toks) (o:=.lst (cutV xs lo hi)) (fun b ob q=>Heap.get?_push_of_some _ q) (Nat.le_refl _) ?_,rfl,q _ (I.hok.fresh (Nat.le_refl _))⟩
 exact ⟨Nat.le_trans (cutV_length xs lo hi) hz,_,0,(r.drop (HT.sIx xs.length 0 lo)).take (HT.sIx xs.length xs.length hi - HT.sIx xs.length 0 lo),Heap.get?_push_size _ rfl⟩
theorem call_len_seq:CallR X (.builtin "len") (fun xs H Q=>∃ p ys,xs=[.ref p]∧(SqL X.K H p ys∨SqT X.K H p ys)∧Q (.int ys.length) H):=by
 intro pins s σ H xs us Q I r h
 obtain ⟨p,ys,rfl,hq,q⟩:=h
 obtain ⟨u,rfl,rx⟩:=vals1 r
 cases rx
 have hn:=line63
 rcases hq with hq | hq
 ·obtain ⟨its,r',pl,hz⟩:=I.list hq
  have hlen:=r'.length
  exact Calls.call_len_list pl.isList (by simp only [List.size_toArray] <;> omega) ⟨.int ys.length,H,I.tok _,⟨s.toks+1,by rw [List.size_toArray,hlen]⟩,q⟩
 ·obtain ⟨its,r',pl,hz⟩:=I.tuple hq
  have hlen:=r'.length
  exact len_tuple pl (by simp only [List.size_toArray] <;> omega) ⟨.int ys.length,H,I.tok _,⟨s.toks+1,by rw [List.size_toArray,hlen]⟩,q⟩
theorem call_list_of:CallR X (.type "list") (fun xs H Q=>∃ p ys,xs=[.ref p]∧(SqL X.K H p ys∨SqT X.K H p ys)∧∀ l,H l=none→Q (.ref l) (upd H l (.lst ys))):=by
 intro pins s σ H xs us Q I r h
 obtain ⟨p,ys,rfl,hq,q⟩:=h
 obtain ⟨u,rfl,rx⟩:=vals1 r
 cases rx
 have fin:∀ (its:List Value),Vals ys its→ys.length≤sizeLine→∀ (h':Heap) (c':Nat),(∀ b o',s.heap.get? b=some o'→h'.get? b=some o') →
   h'.get? s.heap.objs.size=some { cls:=.type "list",dict:=none,data:=.seq its.toArray c',slots:=#[] }→EP X pins σ Q (.ref s.heap.objs.size) { s with heap:=h' }:=fun its r' hz h' c' kp e =>
  ⟨.ref s.heap.objs.size,_,I.laid (t':=s.toks) kp (Nat.le_refl _) (show ObjOk X.prog X.w _ h' _ (.lst ys) from ⟨hz,its,c',r',e⟩),rfl,q _ (I.hok.fresh (Nat.le_refl _))⟩
 rcases hq with hq | hq
 ·obtain ⟨its,r',pl,hz⟩:=I.list hq
  have hlen:=r'.length
  obtain ⟨o,ho,hc,n,hd⟩:=pl.isList
  exact call_list_seq p (.inl rfl) ho hc hd (fun h' c' kp e=>fin its r' hz h' c' kp e) (by simp only [List.size_toArray] <;> omega)
 ·obtain ⟨its,r',pl,hz⟩:=I.tuple hq
  have hlen:=r'.length
  obtain ⟨o,ho,hc,n,hd⟩:=pl
  exact call_list_seq p (.inr rfl) ho hc hd (fun h' c' kp e=>fin its r' hz h' c' kp e) (by simp only [List.size_toArray] <;> omega)
theorem call_tuple_of:CallR X (.type "tuple") (fun xs H Q=>∃ p ys,xs=[.ref p]∧((SqL X.K H p ys∧∀ l,H l=none→Q (.ref l) (upd H l (.tup ys)))∨(SqT X.K H p ys∧Q (.ref p) H))):=by
 intro pins s σ H xs us Q I r h
 obtain ⟨p,ys,rfl,h⟩:=h
 obtain ⟨u,rfl,rx⟩:=vals1 r
 cases rx
 rcases h with ⟨hq,q⟩ | ⟨hq,q⟩
 ·obtain ⟨its,r',pl,hz⟩:=I.list hq
  have hlen:=r'.length
  refine call_tuple_list pl.isList (fun h' kp=>?_) (by simp only [List.size_toArray] <;> omega)
  have I1:Inv X pins σ H { s with heap:=h' }:=I.kept (t':=s.toks) kp
  have I2:Inv X pins σ (upd H h'.objs.size (.tup ys)) { s with heap:=h'.push { cls:=.type "tuple",data:=.seq its.toArray } } :=
   I1.laid (t':=s.toks) (fun b o e=>Heap.get?_push_of_some _ e) (Nat.le_refl _) (show ObjOk X.prog X.w _ _ _ (.tup ys) from ⟨hz,its,r',IsTup.new _ _⟩)
  exact ⟨.ref h'.objs.size,_,I2,rfl,q _ (I1.hok.fresh (Nat.le_refl _))⟩
 ·obtain ⟨its,r',pl,hz⟩:=I.tuple hq
  exact call_tuple_same pl ⟨.ref p,H,I,rfl,q⟩
def tyV (K:PySem.W.Frag) (T:String) (x:V) (H:Hp):Prop:=match x with
 | .str _=>T="str"
 | .int _=>T="int"
 | .ref p=>(T="list"∧∃ xs,SqL K H p xs)∨(T="tuple"∧∃ o,K.lookup p=some o∧o.cls=.type "tuple"∧o.dict=none) ∨
   (T="dict"∧((∃ kvs,H p=some (.dK kvs))∨∃ kvs,H p=some (.dT kvs)))∨(T="set"∧∃ S n,H p=some (.set S n))
 | _=>False
theorem tyV_is {pins:List (Addr×Obj)} {σ:St} {H:Hp} {s:Shared} {T:String} {x:V} {v:Value} (I:Inv X pins σ H s) (r:RelV x v) (ty:tyV X.K T x H) :
  s.TypeIs v T∧∀ a,v=.ref a→∃ ob,s.heap.get? a=some ob∧ob.dict=none:=by
 cases x with
 | str z =>
  obtain ⟨t,rfl⟩:=r
  cases (show T="str" from ty)
  exact ⟨typeIs_str s z t,fun _ e=>nomatch e⟩
 | int i =>
  obtain ⟨t,rfl⟩:=r
  cases (show T="int" from ty)
  exact ⟨typeIs_int s i t,fun _ e=>nomatch e⟩
 | ref p =>
  cases r
  rcases ty with ⟨rfl,xs,hq⟩ | ⟨rfl,o,hk,hc,hd⟩ | ⟨rfl,hk⟩ | ⟨rfl,S,n,hk⟩
  ·obtain ⟨its,_,pl,_⟩:=I.list hq
   refine ⟨pl.isList.typeIs,fun a e=>?_⟩
   cases e
   obtain ⟨o,n,e,c,hd,_⟩:=pl
   exact ⟨o,e,hd⟩
  ·refine ⟨⟨o,I.kIn p o hk,hc⟩,fun a e=>?_⟩
   cases e
   exact ⟨o,I.kIn _ o hk,hd⟩
  ·have z:∃ o,s.heap.get? p=some o∧o.ExactDict:=by
    rcases hk with ⟨kvs,hk⟩ | ⟨kvs,hk⟩
    ·obtain ⟨_,_,_,_,o,_,_,e,ex,_⟩:=I.hok p _ hk
     exact ⟨o,e,ex⟩
    ·obtain ⟨_,_,_,_,o,_,_,e,ex,_⟩:=I.hok p _ hk
     exact ⟨o,e,ex⟩
   obtain ⟨o,e,ex⟩:=z
   refine ⟨⟨o,e,ex.1⟩,fun a e2=>?_⟩
   cases e2
   exact ⟨o,e,ex.2.1⟩
  ·obtain ⟨o,_,_,_,e,ex,_⟩:=I.hok p _ hk
   refine ⟨⟨o,e,ex.1⟩,fun a e2=>?_⟩
   cases e2
   exact ⟨o,e,ex.2.1⟩
 | _=>exact False.elim ty
def tBM (K:PySem.W.Frag) (T:String) (r:V→List V→Hp→VK→Prop) (to:TE) (t:TA):TE:=fun σ H Q=>to σ H fun x H1=>tyV K T x H1∧t σ H1 fun xs H2=>r x xs H2 Q
variable {o e:Expr} {es:List Expr} {to:TE} {t:TA} {name:Str} {apos cpos:Pos} {T id:String} {r:V→List V→Hp→VK→Prop}
theorem pe_bm (pa:PlainAttrs T) (slot:Slot T name id) (hty:typeOf (.builtin id)=pure (.type "method_descriptor")) (hm:MtR X id r) (ho:PE X o to) (ha:PA X (e :: es) t)
  (hbase:attributeBase o name X.env (eval o X.env)=eval o X.env:=by rfl)
  (hfew:((backTo cpos (starEach (e :: es) X.env)).all (fun x=>!x.1) && (backToKw cpos (keywordEach [] X.env)).all (fun x=>x.1.isSome)
   && decide ((e :: es).length+([]:List Keyword).length+(if ([]:List Keyword).isEmpty then 0 else 1) < 30))=true:=by rfl)
  (hline:(apos.endLine == cpos.line)=true:=by rfl) (hs:starEach (e :: es) X.env=(false,eval e X.env) :: starEach es X.env:=by rfl) (hplain:(backTo cpos (starEach es X.env)).any (·.1)=false:=by rfl) :
  PE X (.Call (.Attribute o name apos) (e :: es) [] cpos) (tBM X.K T r to t):=by
 intro pins s σ H Q I h
 refine wpAny_Call_method_late hbase hfew hline rfl (thn (ho pins s σ H _ I h) fun v s1 ⟨x,H1,I1,r1,ty,q1⟩=>?_)
 obtain ⟨h1,h2⟩:=tyV_is I1 r1 ty
 refine ⟨T,id,pa,slot,hty,h1,h2,?_⟩
 have hA:=ha cpos pins s1 σ H1 _ I1 q1
 rw [hs] at hA ⊢
 refine Calls.callWith_builtin (by show (false || (backTo cpos (starEach es X.env)).any (·.1))=false;rw [hplain] <;> rfl) (Calls.evalArgs_plain ?_)
 exact thn hA fun us s2 ⟨vs,H2,I2,r2,q2⟩=>hm pins s2 σ H2 x vs v us Q I2 r1 r2 q2
end
end L2
namespace L2
open PySem PySem.Spec PyProof.Rows
def MtM (X:Cx) (id:String) (r:V→List V→Hp→VK→Prop):Prop :=
 ∀ (pins:List (Addr×Obj)) (s:Shared) (σ:St) (H:Hp) (x:V) (xs:List V) (v:Value) (us:List Value) (Q:VK),Inv X pins σ H s→RelV x v→Vals xs us→r x xs H Q →
  wpAny (model X.prog X.w) X.A (call (.builtin id) (v :: us)) (EP X pins σ Q) X.xe s
theorem Vals.one:∀ {x:V} {us:List Value},Vals [x] us→∃ u,us=[u]∧RelV x u
 | _,_,.cons r .nil=>⟨_,rfl,r⟩
section
variable {X:Cx} {pins:List (Addr×Obj)} {σ:St} {H:Hp} {s:Shared} {l b:Addr} {xs ys zs:List V}
theorem Inv.lset {its its':List Value} {n:Nat} {f:Array Value→Array Value} {t':Nat} (I:Inv X pins σ H s) (hH:H l=some (.lst xs))
  (e:s.heap.get? l=some { cls:=.type "list",data:=.seq its.toArray n }) (hf:f its.toArray=its'.toArray) (hv:Vals ys its') (hz:ys.length≤sizeLine) :
  Inv X pins σ (upd H l (.lst ys)) { s with heap:=s.heap.update l (Obj.mapSeq f),toks:=t' }:=by
 have q:=PySem.IsL.update e f
 rw [hf] at q
 refine I.write (x:=l) (e:=l) (by rw [hH];exact trivial) (.inl rfl) (fun b' u hb hu=>(Heap.get?_update_other s.heap (Obj.mapSeq f) (Ne.symm hb)).trans hu) ⟨_,q⟩ ?_
 exact ⟨hz,its',_,hv,q⟩
theorem Inv.lnew {its:List Value} {t':Nat} (I:Inv X pins σ H s) (hv:Vals ys its) (hz:ys.length≤sizeLine) :
  Inv X pins σ (upd H s.heap.objs.size (.lst ys)) { s with heap:=s.heap.push { cls:=.type "list",data:=.seq its.toArray },toks:=t' } :=
 I.laid (fun _ _ q=>Heap.get?_push_of_some _ q) (Nat.le_refl _) ⟨hz,its,0,hv,Heap.get?_push_size _ rfl⟩
theorem Inv.fresh (I:Inv X pins σ H s):H s.heap.objs.size=none:=I.hok.fresh (Nat.le_refl _)
theorem Inv.lstM (I:Inv X pins σ H s) (hH:H l=some (.lst xs)):xs.length≤sizeLine∧∃ (its:List Value) (n:Nat),Vals xs its∧xs.length=its.length∧s.heap.get? l=some { cls:=.type "list",data:=.seq its.toArray n }:=by
 obtain ⟨z,its,n,r,e⟩:=I.hok l _ hH
 exact ⟨z,its,n,r,r.length,e⟩
end
section
variable {X:Cx}
def rAppend:V→List V→Hp→VK→Prop:=fun x vs H Q=>∃ l xs y,x=.ref l∧vs=[y]∧H l=some (.lst xs)∧xs.length < sizeLine∧Q .non (upd H l (.lst (xs++[y])))
theorem mt_append:MtM X "list.append" rAppend:=by
 intro pins s σ H x vs v us Q I rx rv h
 obtain ⟨l,xs,y,rfl,rfl,hH,hz,q⟩:=h
 cases rx
 obtain ⟨u,rfl,ru⟩:=rv.one
 obtain ⟨z,its,n,r,hl,e⟩:=I.lstM hH
 refine call_meets F.slot_list_append ⟨_,e,rfl⟩ F.entry_list_append (F.args_list_append_2 _ _) (PySem.list_append l its.toArray n u (by rw [List.size_toArray];omega)) ⟨e,?_⟩
 refine ⟨.non,_,I.lset (its':=its++[u]) hH e (by simp) (r.append (.cons ru .nil)) ?_,rfl,q⟩
 rw [List.length_append,List.length_singleton]
 omega
def rCat:R2:=fun x y H Q=>∃ l b xs zs,x=.ref l∧y=.ref b∧H l=some (.lst xs)∧H b=some (.lst zs)∧xs.length+zs.length≤sizeLine∧∀ p,H p=none→Q (.ref p) (upd H p (.lst (xs++zs)))
theorem op_cat:OpR X (binaryOp .Add) rCat:=by
 intro pins s σ H x y v u Q I rx ry h
 obtain ⟨l,b,xs,zs,rfl,rfl,hH,hB,hz,q⟩:=h
 cases rx
 cases ry
 obtain ⟨z,its,n,r,hl,e⟩:=I.lstM hH
 obtain ⟨z2,its2,n2,r2,hl2,e2⟩:=I.lstM hB
 refine PySem.P.add_list e e2 ?_ (by rw [List.size_toArray,List.size_toArray];omega)
 have ea:its.toArray++its2.toArray=(its++its2).toArray:=by simp
 rw [ea]
 exact ⟨.ref _,_,I.lnew (t':=s.toks) (r.append r2) (by rw [List.length_append];omega),rfl,q _ I.fresh⟩
end
section
variable {prog:Program} {w:World} {A:Around} {E:Value→Shared→Prop} {s:Shared}
set_option maxRecDepth 100000 in
end
end L2
namespace L2
open PySem PySem.Spec PyProof.Rows
section
variable {κ:Type} [DecidableEq κ]
def valV (kvs:List (κ×V)) (k:κ):Option V:=(kvs.find? fun kv=>decide (kv.1=k)).map (·.2)
def putK (kvs:List (κ×V)) (k:κ) (v:V):List (κ×V) :=
 if (kvs.any fun kv=>decide (kv.1=k))=true then kvs.map (fun kv=>if kv.1=k then (kv.1,v) else kv) else kvs++[(k,v)]
theorem valV_nil {k:κ}:valV ([]:List (κ×V)) k=none:=rfl
theorem valV_pos {p:κ×V} {r:List (κ×V)} {k:κ} (e:p.1=k):valV (p :: r) k=some p.2:=by simp [valV,List.find?_cons,e]
theorem valV_neg {p:κ×V} {r:List (κ×V)} {k:κ} (e:¬ p.1=k):valV (p :: r) k=valV r k:=by simp [valV,List.find?_cons,e]
theorem valV_any (k:κ):∀ kvs:List (κ×V),(kvs.any fun kv=>decide (kv.1=k))=(valV kvs k).isSome
 | []=>rfl
 | p :: r=>by
  rw [List.any_cons]
  by_cases e:p.1=k
  ·simp only [valV_pos e,decide_eq_true e,Bool.true_or,Option.isSome_some]
  ·rw [valV_neg e,decide_eq_false e,Bool.false_or];exact valV_any k r
theorem valV_map (k j:κ) (y:V):∀ kvs:List (κ×V),valV (kvs.map fun kv=>if kv.1=k then (kv.1,y) else kv) j=(valV kvs j).map fun x=>if j=k then y else x
 | []=>rfl
 | p :: r=>by
  have ih:=valV_map k j y r
  rw [List.map_cons]
  by_cases h:p.1=k
  ·rw [if_pos h]
   by_cases e:p.1=j
   ·rw [valV_pos (p:=(p.1,y)) e,valV_pos e,Option.map_some,if_pos (e.symm.trans h)]
   ·rw [valV_neg (p:=(p.1,y)) e,valV_neg e,ih]
  ·rw [if_neg h]
   by_cases e:p.1=j
   ·rw [valV_pos (p:=p) e,valV_pos e,Option.map_some,if_neg (fun z=>h (e.trans z))]
   ·rw [valV_neg (p:=p) e,valV_neg e,ih]
theorem valV_snoc (k j:κ) (y:V):∀ kvs:List (κ×V),valV kvs k=none→valV (kvs++[(k,y)]) j=if j=k then some y else valV kvs j
 | [],_=>by
  by_cases e:k=j
  ·rw [if_pos e.symm];exact valV_pos (p:=(k,y)) e
  ·rw [if_neg (fun z=>e z.symm)];exact valV_neg (p:=(k,y)) e
 | p :: r,hn=>by
  rw [List.cons_append]
  have hk:¬ p.1=k:=fun z=>by rw [valV_pos z] at hn;cases hn
  rw [valV_neg hk] at hn
  have ih:=valV_snoc k j y r hn
  by_cases e:p.1=j
  ·rw [valV_pos e,valV_pos e,if_neg (fun z=>hk (e.trans z))]
  ·rw [valV_neg e,valV_neg e,ih]
theorem valV_put (kvs:List (κ×V)) (k j:κ) (y:V):valV (putK kvs k y) j=if j=k then some y else valV kvs j:=by
 unfold putK
 by_cases a:(kvs.any fun kv=>decide (kv.1=k))=true
 ·rw [if_pos a,valV_map]
  rw [valV_any] at a
  by_cases e:j=k
  ·obtain ⟨x,hx⟩:=Option.isSome_iff_exists.mp a
   rw [if_pos e,e,hx,Option.map_some,if_pos rfl]
  ·rw [if_neg e]
   cases valV kvs j with
   | none=>rfl
   | some x=>rw [Option.map_some,if_neg e]
 ·rw [if_neg a]
  refine valV_snoc k j y kvs ?_
  rw [valV_any] at a
  cases q:valV kvs k with
  | none=>rfl
  | some x=>rw [q] at a;exact (a rfl).elim
theorem length_putK (kvs:List (κ×V)) (k:κ) (v:V):(putK kvs k v).length≤kvs.length+1:=by
 unfold putK
 split
 ·rw [List.length_map];omega
 ·rw [List.length_append,List.length_cons,List.length_nil];omega
theorem putK_new {kvs:List (κ×V)} {k:κ} (v:V) (h:valV kvs k=none):putK kvs k v=kvs++[(k,v)]:=by
 unfold putK
 rw [valV_any,h]
 exact if_neg (by decide)
theorem RelO.isSome_eq {o:Option V} {u:Option Value} (r:RelO o u):o.isSome=u.isSome:=by
 cases o with
 | none=>cases u with
  | none=>rfl
  | some _=>exact (show False from r).elim
 | some _=>cases u with
  | none=>exact (show False from r).elim
  | some _=>rfl
theorem RelO.getD {o:Option V} {u:Option Value} {d:V} {d':Value} (r:RelO o u) (rd:RelV d d'):RelV (o.getD d) (u.getD d'):=by
 cases o with
 | none=>cases u with
  | none=>exact rd
  | some _=>exact (show False from r).elim
 | some _=>cases u with
  | none=>exact (show False from r).elim
  | some _=>exact r
theorem KV.val {kvs:List (κ×V)} {vs:List (κ×Value)} (r:KV kvs vs) (k:κ):RelO (valV kvs k) (valueAt vs k):=by
 unfold KV at r
 induction r with
 | nil=>exact True.intro
 | @cons p q ps qs h t ih =>
  obtain ⟨h1,h2⟩:=h
  by_cases e:p.1=k
  ·have e':q.1=k:=h1.symm.trans e
   have b:valueAt (q :: qs) k=some q.2:=by simp [valueAt,List.find?_cons,e']
   rw [valV_pos e,b];exact h2
  ·have e':¬ q.1=k:=fun z=>e (h1.trans z)
   have b:valueAt (q :: qs) k=valueAt qs k:=by simp [valueAt,List.find?_cons,e']
   rw [valV_neg e,b];exact ih
theorem KV.any {kvs:List (κ×V)} {vs:List (κ×Value)} (r:KV kvs vs) (k:κ):(kvs.any fun kv=>decide (kv.1=k))=vs.any fun kv=>decide (kv.1=k):=by
 unfold KV at r
 induction r with
 | nil=>rfl
 | cons h t ih=>rw [List.any_cons,List.any_cons,ih,h.1]
theorem KV.repl {kvs:List (κ×V)} {vs:List (κ×Value)} (r:KV kvs vs) (k:κ) {y:V} {u:Value} (ry:RelV y u) :
  KV (kvs.map fun kv=>if kv.1=k then (kv.1,y) else kv) (vs.map fun kv=>if kv.1=k then (kv.1,u) else kv):=by
 unfold KV at r ⊢
 induction r with
 | nil=>exact .nil
 | @cons p q ps qs h t ih =>
  rw [List.map_cons,List.map_cons]
  refine .cons ?_ ih
  obtain ⟨h1,h2⟩:=h
  by_cases e:p.1=k
  ·rw [if_pos e,if_pos (h1.symm.trans e)];exact ⟨h1,ry⟩
  ·rw [if_neg e,if_neg (fun z=>e (h1.trans z))];exact ⟨h1,h2⟩
theorem KV.put {kvs:List (κ×V)} {vs:List (κ×Value)} (r:KV kvs vs) (k:κ) {y:V} {u:Value} (ry:RelV y u):KV (putK kvs k y) (stored vs k u):=by
 unfold putK stored
 rw [r.any k]
 by_cases e:(vs.any fun kv=>decide (kv.1=k))=true
 ·rw [if_pos e,if_pos e];exact r.repl k ry
 ·rw [if_neg e,if_neg e];exact Paired.snoc r ⟨rfl,ry⟩
theorem KV.length {kvs:List (κ×V)} {vs:List (κ×Value)} (r:KV kvs vs):kvs.length=vs.length:=Paired.length r
end
theorem kV_is {P:Program} {w:World} {k:Key} {u:Value} (r:RelV (kV k) u):(mixKind P w).is k u=true:=by
 cases k with
 | inl i=>obtain ⟨t,e⟩:=(show ∃ t,u=Value.int i t from r);subst e;exact mixKind_int P w i t
 | inr x=>obtain ⟨t,e⟩:=(show ∃ t,u=Value.str x t from r);subst e;exact mixKind_str P w x t
theorem items_are {P:Program} {w:World}:∀ {ks:List Key} {us:List Value},Vals (ks.map kV) us→ItemsAre (mixKind P w) ks us
 | [],_,r=>by rw [List.map_nil] at r;cases r;exact .nil
 | k :: ks,_,r=>by
  rw [List.map_cons] at r
  cases r with
  | cons h t=>exact .cons (kV_is h) (items_are t)
abbrev KT (H:Hp):List (List Key×V)→List (List Key×Addr×Value)→Prop:=Paired fun p q=>p.1=q.1∧H q.2.1=some (.tup (p.1.map kV))∧RelV p.2 q.2.2
theorem KT.val {H:Hp} {kvs:List (List Key×V)} {xs:List (List Key×Addr×Value)} (r:KT H kvs xs) (k:List Key):RelO (valV kvs k) ((atKey xs k).map (·.2)):=by
 induction r with
 | nil=>exact True.intro
 | @cons p q ps qs h t ih =>
  obtain ⟨h1,_,h2⟩:=h
  by_cases e:p.1=k
  ·have e':q.1=k:=h1.symm.trans e
   have b:atKey (q :: qs) k=some q.2:=by simp [atKey,List.find?_cons,e']
   rw [valV_pos e,b];exact h2
  ·have e':¬ q.1=k:=fun z=>e (h1.trans z)
   have b:atKey (q :: qs) k=atKey qs k:=by simp [atKey,List.find?_cons,e']
   rw [valV_neg e,b];exact ih
theorem KT.repl {H:Hp} {kvs:List (List Key×V)} {xs:List (List Key×Addr×Value)} (r:KT H kvs xs) (k:List Key) {y:V} {u:Value} (ry:RelV y u) :
  KT H (kvs.map fun kv=>if kv.1=k then (kv.1,y) else kv) (xs.map (putAt k u)):=by
 induction r with
 | nil=>exact .nil
 | @cons p q ps qs h t ih =>
  rw [List.map_cons,List.map_cons]
  refine .cons ?_ ih
  obtain ⟨h1,h2,h3⟩:=h
  unfold putAt
  by_cases e:p.1=k
  ·rw [if_pos e,if_pos (h1.symm.trans e)];exact ⟨h1,h2,ry⟩
  ·rw [if_neg e,if_neg (fun z=>e (h1.trans z))];exact ⟨h1,h2,h3⟩
theorem KT.put {H:Hp} {kvs:List (List Key×V)} {xs:List (List Key×Addr×Value)} (r:KT H kvs xs) (k:List Key) {b:Addr} {y:V} {u:Value} (hb:H b=some (.tup (k.map kV))) (ry:RelV y u) :
  KT H (putK kvs k y) (storedH xs k b u):=by
 have e:(kvs.any fun kv=>decide (kv.1=k))=(atKey xs k).isSome:=by
  rw [valV_any,(r.val k).isSome_eq,Option.isSome_map]
 unfold putK storedH
 rw [e]
 by_cases q:(atKey xs k).isSome=true
 ·rw [if_pos q,if_pos q];exact r.repl k ry
 ·rw [if_neg q,if_neg q];exact Paired.snoc r ⟨rfl,hb,ry⟩
theorem KT.keeps {H H':Hp} {kvs:List (List Key×V)} {xs:List (List Key×Addr×Value)} (r:KT H kvs xs) (ht:∀ b ys,H b=some (.tup ys)→H' b=some (.tup ys)):KT H' kvs xs :=
 Paired.mapP r fun _ _ z=>⟨z.1,ht _ _ z.2.1,z.2.2⟩
section
variable {P:Program} {w:World} {H:Hp} {h:Heap} {a:Addr}
theorem rd_of {u:HO} (ok:HOk P w H h) (e:Rd H a u):ObjOk P w H h a u:=e.ok ok
theorem dk_rd {kvs:List (Key×V)} (ok:HOk P w H h) (e:Rd H a (.dK kvs)):kvs.length≤sizeLine∧(a == sysModules)=false∧∃ vs,KV kvs vs∧h.DictOf (mixKind P w) a vs :=
 show ObjOk P w H h a (.dK kvs) from rd_of ok e
theorem dk_of {kvs:List (Key×V)} (ok:HOk P w H h) (e:H a=some (.dK kvs)):kvs.length≤sizeLine∧(a == sysModules)=false∧∃ vs,KV kvs vs∧h.DictOf (mixKind P w) a vs:=dk_rd ok (.inl e)
theorem key_of {ks:List Key} (ok:HOk P w H h) (e:H a=some (.tup (ks.map kV))):(tupleKind (mixKind P w)).is h ks a:=by
 obtain ⟨_,its,r,o,h1,h2,n,h3⟩:=(show ObjOk P w H h a (.tup (ks.map kV)) from ok a _ e)
 exact ⟨o,its.toArray,n,h1,h2,h3,by simpa using items_are r⟩
theorem dt_rd {kvs:List (List Key×V)} (ok:HOk P w H h) (e:Rd H a (.dT kvs)):kvs.length≤sizeLine∧(a == sysModules)=false ∧
  ∃ xs,KT H kvs xs∧h.DictOfH (tupleKind (mixKind P w)) a xs:=by
 obtain ⟨z,y,xs,r,o,es,ep,h1,h2,h3,h4,h5⟩:=(show ObjOk P w H h a (.dT kvs) from rd_of ok e)
 refine ⟨z,y,xs,r,o,es,ep,h1,h2,h3,h4,fun x hx=>?_,h5⟩
 have all:∀ {l:List (List Key×V)} {m:List (List Key×Addr×Value)},KT H l m→∀ x∈m,(tupleKind (mixKind P w)).is h x.1 x.2.1:=by
  intro l m q
  induction q with
  | nil=>intro x hx;exact nomatch hx
  | @cons p q ps qs hq t ih =>
   intro x hx
   rcases List.mem_cons.mp hx with e | hx
   ·subst e
    exact key_of ok (by rw [← hq.1];exact hq.2.1)
   ·exact ih x hx
 exact all r x hx
theorem dt_of {kvs:List (List Key×V)} (ok:HOk P w H h) (e:H a=some (.dT kvs)):kvs.length≤sizeLine∧(a == sysModules)=false ∧
  ∃ xs,KT H kvs xs∧h.DictOfH (tupleKind (mixKind P w)) a xs:=dt_rd ok (.inl e)
end
def DGet (H:Hp) (a:Addr) (y:V) (r:Option V):Prop :=
 (∃ kvs k,Rd H a (.dK kvs)∧y=kV k∧r=valV kvs k)∨∃ kvs k b,Rd H a (.dT kvs)∧y=.ref b∧H b=some (.tup (k.map kV))∧r=valV kvs k
def DPut (H:Hp) (a:Addr) (y v:V) (H':Hp):Prop :=
 (∃ kvs k,H a=some (.dK kvs)∧y=kV k∧kvs.length < sizeLine∧H'=upd H a (.dK (putK kvs k v))) ∨
 ∃ kvs k b,H a=some (.dT kvs)∧y=.ref b∧H b=some (.tup (k.map kV))∧kvs.length < sizeLine∧H'=upd H a (.dT (putK kvs k v))
theorem DGet.t {H:Hp} {a b:Addr} {kvs:List (List Key×V)} {k:List Key} (e:H a=some (.dT kvs)) (eb:H b=some (.tup (k.map kV))):DGet H a (.ref b) (valV kvs k):=.inr ⟨kvs,k,b,.inl e,rfl,eb,rfl⟩
theorem DPut.k {H:Hp} {a:Addr} {kvs:List (Key×V)} {k:Key} {v:V} (e:H a=some (.dK kvs)) (hl:kvs.length < sizeLine):DPut H a (kV k) v (upd H a (.dK (putK kvs k v))):=.inl ⟨kvs,k,e,rfl,hl,rfl⟩
theorem DPut.t {H:Hp} {a b:Addr} {kvs:List (List Key×V)} {k:List Key} {v:V} (e:H a=some (.dT kvs)) (eb:H b=some (.tup (k.map kV))) (hl:kvs.length < sizeLine) :
  DPut H a (.ref b) v (upd H a (.dT (putK kvs k v))):=.inr ⟨kvs,k,b,e,rfl,eb,hl,rfl⟩
section
variable {X:Cx} {pins:List (Addr×Obj)} {σ:St} {H:Hp} {s:Shared} {a:Addr} {y v:V} {u r:Value} {o:Option V} {A:Around} {E:Value→Shared→Prop}
theorem Inv.big (I:Inv X pins σ H s):sysModules < s.heap.objs.size:=by
 have h:mainGlobals < s.heap.objs.size:=(I.mod.glob.keeps I.bk).lt
 exact Nat.lt_trans (by decide) h
theorem d_notIn {Q:Value→Shared→Prop} (hu:A.units+1 < cLine) (I:Inv X pins σ H s) (g:DGet H a y o) (ry:RelV y u) (h:∀ s',Inv X pins σ H s'→Q (.bool (!o.isSome)) s') :
  wpAny (model X.prog X.w) A (compareOp .NotIn u (.ref a)) Q E s:=by
 rcases g with ⟨kvs,k,e,ey,l⟩ | ⟨kvs,k,b,e,ey,eb,l⟩
 ·subst ey
  obtain ⟨z,hd,vs,rel,dd⟩:=dk_rd I.hok e
  refine wpAny_notIn_of (kV_is ry) hd dd.mapOf ?_
  rw [← (rel.val k).isSome_eq,← l]
  exact h _ (I.tok _)
 ·subst ey
  cases (show u=Value.ref b from ry)
  obtain ⟨z,hd,xs,rel,dd⟩:=dt_rd I.hok e
  refine wpAny_notIn_heap (tupleKind_room_in1 hu) (key_of I.hok eb) hd dd ?_
  have q:=(rel.val k).isSome_eq
  rw [Option.isSome_map] at q
  rw [← q,← l]
  exact h _ (I.tok _)
theorem d_write {h':Heap} {t':Nat} {ob:HO} (I:Inv X pins σ H s) (mu:Mut (H a)) (hs:Heap.SameBut a s.heap h') (he:∃ q,h'.get? a=some q) (new:ObjOk X.prog X.w (upd H a ob) h' a ob) :
  Inv X pins σ (upd H a ob) { s with heap:=h',toks:=t' } :=
 I.write (x:=a) (e:=a) mu (.inl rfl) (fun b q hb z=>(hs.2 b hb).trans z) he new
theorem dk_new {P:Program} {w:World} {H':Hp} {h':Heap} {kvs:List (Key×V)} {vs:List (Key×Value)} (z:kvs.length≤sizeLine) (hd:(a == sysModules)=false) (rel:KV kvs vs) (dd:h'.DictOf (mixKind P w) a vs) :
  ObjOk P w H' h' a (.dK kvs):=⟨z,hd,vs,rel,dd⟩
theorem d_setItem {H':Hp} {Q:Unit→Shared→Prop} (hu:A.units+1 < cLine) (I:Inv X pins σ H s) (g:DPut H a y v H') (ry:RelV y u) (rv:RelV v r) (h:∀ s',Inv X pins σ H' s'→Q () s') :
  wpAny (model X.prog X.w) A (setItem (.ref a) u r) Q E s:=by
 rcases g with ⟨kvs,k,e,ey,l,eH⟩ | ⟨kvs,k,b,e,ey,eb,l,eH⟩
 ·subst ey eH
  obtain ⟨z,hd,vs,rel,dd⟩:=dk_of I.hok e
  have hz:vs.length≤sizeLine:=by rw [← rel.length];exact z
  have hl:(putK kvs k v).length≤sizeLine:=by have:=length_putK kvs k v;omega
  refine wpAny_setItem_pairs (hsz:=hz) (kV_is ry) dd fun h' dd' hs=>h _ ?_
  have he:∃ q,h'.get? a=some q:=let ⟨q,_,_,hq,_⟩:=dd';⟨q,hq⟩
  exact d_write I (by rw [e];exact True.intro) hs he (dk_new hl hd (rel.put k rv) dd')
 ·subst ey eH
  cases (show u=Value.ref b from ry)
  obtain ⟨z,hd,xs,rel,dd⟩:=dt_of I.hok e
  have hz:xs.length≤sizeLine:=by rw [← Paired.length rel];exact z
  have hl:(putK kvs k v).length≤sizeLine:=by have:=length_putK kvs k v;omega
  refine wpAny_setItem_heap (hsz:=hz) (tupleKind_room_in1 hu) (key_of I.hok eb) dd fun h' dd' hs=>h _ ?_
  obtain ⟨q,es,ep,hq,h2,h3,h4,_,h5⟩:=dd'
  refine d_write I (by rw [e];exact True.intro) hs ⟨q,hq⟩ ⟨hl,hd,_,(rel.put k eb rv).keeps fun c ys ec=>?_,q,es,ep,hq,h2,h3,h4,h5⟩
  rw [upd_ne (ne_of ec e (fun z=>nomatch z))]
  exact ec
end
def NoSl (i:Expr):Prop:=∀ ov iv,subscripted i false ov iv=operate [ov,iv] (getItem ov iv)
theorem subD_of {prog:Program} {w:World} {A:Around} {E:Value→Shared→Prop} {s:Shared} {env:Env} {value slice:Expr} {pos:Pos} {T id:String} {Q:Value→Shared→Prop}
  (hl:typeLookup (.type T) "__getitem__"=pure (some (.builtin id))) (hs:NoSl slice)
  (h:wpAny (model prog w) A (eval value env) (fun o s₁=>wpAny (model prog w) A (eval slice env) (fun i s₂=>s₂.TypeIs o T∧wpAny (model prog w) A (getItem o i) Q E s₂) E s₁) E s) :
  wpAny (model prog w) A (eval (.Subscript value slice pos) env) Q E s:=by
 refine Subscript_ (wpAny_mono h (fun o s₁ h₁=>wpAny_mono h₁ (fun i s₂ h₂=>?_) fun _ _ x=>x) fun _ _ x=>x)
 obtain ⟨hT,h₂⟩:=h₂
 unfold subscriptTail
 refine wpAny_bind ?_
 rw [getitemInPython_of_ne hT.not_modules]
 refine wpAny_bind (wpAny_specialOf hT hl ?_)
 have fin:wpAny (model prog w) A (subscripted slice false o i) (fun r s₃=>wpAny (model prog w) A (letTemporaryGo value o r >>= fun _=>pure r) Q E s₃) E s₂:=by
  rw [hs o i]
  exact wpAny_operating (wpAny_mono h₂ (fun r s₃ h₃=>wpAny_bind (wpAny_letTemporaryGo (wpAny_pure h₃))) fun _ _ x=>x)
 first
  | exact wpAny_pure (wpAny_bind fin)
  | exact wpAny_bind (wpAny_pure (wpAny_bind fin))
  | exact wpAny_bind fin
def tDNotIn (ty td:TE):TE:=fun σ H Q=>ty σ H fun y H1=>td σ H1 fun x H2=>∃ a o,x=.ref a∧DGet H2 a y o∧Q (.bl (!o.isSome)) H2
def sDPut (td ty tv:TE):TS:=fun D σ H=>tv σ H fun v H1=>td σ H1 fun x H2=>ty σ H2 fun y H3=>∃ a H4,x=.ref a∧DPut H3 a y v H4∧D.nx σ H4
section
variable {X:Cx} {o i e value:Expr} {pos pos' tpos:Pos} {td ty tv:TE}
theorem pc_dnotin (hu:X.A.units+1 < cLine) (hi:PE X i ty) (ho:PE X o td):PC X .NotIn i o (tDNotIn ty td):=by
 intro pins s σ H Q I h
 refine thn (hi pins s σ H _ I h) fun iv s1 ⟨y,H1,I1,ry,q1⟩=>thn (ho pins s1 σ H1 _ I1 q1) fun u s2 ⟨x,H2,I2,rx,a,ov,ex,g,q2⟩=>?_
 subst ex
 obtain rfl:u=Value.ref a:=rx
 exact d_notIn hu I2 g ry fun s3 I3=>⟨.bl (!ov.isSome),H2,I3,rfl,q2⟩
theorem ps_dput (hu:X.A.units+1 < cLine) (ho:PE X o td) (hi:PE X i ty) (hv:PE X value tv) (hs:swapsWith value (some (.Subscript o i pos')) pos.line X.env=pure false) :
  PS X (.Assign [.Subscript o i pos'] value pos) (sDPut td ty tv):=by
 intro pins s σ H D I h
 refine wpAny_Assign_Subscript (thn (hv pins s σ H _ I h) fun r s1 ⟨v,H1,I1,rv,q1⟩=>thn (ho pins s1 σ H1 _ I1 q1) fun u s2 ⟨x,H2,I2,rx,q2⟩=>thn (hi pins s2 σ H2 _ I2 q2) fun iv s3 ⟨y,H3,I3,ry,a,H4,ex,g,q3⟩=>?_) hs
 subst ex
 obtain rfl:u=Value.ref a:=rx
 exact d_setItem hu I3 g ry rv fun s4 I4=>⟨σ,H4,I4,q3⟩
end
theorem dk_empty {P:Program} {w:World} {H:Hp} (h:Heap) (hb:sysModules < h.objs.size):ObjOk P w H (h.push { cls:=.type "dict",data:=.dict #[] }) h.objs.size (.dK []) :=
 ⟨Nat.zero_le _,beq_eq_false_iff_ne.mpr (Ne.symm (Nat.ne_of_lt hb)),[],.nil,Heap.DictOf.new h⟩
theorem dt_empty {P:Program} {w:World} {H:Hp} (h:Heap) (hb:sysModules < h.objs.size):ObjOk P w H (h.push { cls:=.type "dict",data:=.dict #[] }) h.objs.size (.dT []) :=
 ⟨Nat.zero_le _,beq_eq_false_iff_ne.mpr (Ne.symm (Nat.ne_of_lt hb)),[],.nil,_,#[],0,Heap.get?_push_size _ rfl,⟨rfl,rfl,rfl⟩,rfl,rfl,List.nodup_nil⟩
def tDNewK:TE:=fun _ H Q=>∀ p,H p=none→Q (.ref p) (upd H p (.dK []))
def tDNewT:TE:=fun _ H Q=>∀ p,H p=none→Q (.ref p) (upd H p (.dT []))
section
variable {X:Cx} {pos:Pos}
theorem pe_dnewK:PE X (.Dict [] [] pos) tDNewK:=fun pins s σ H Q I h =>
 wpAny_Dict_empty ⟨.ref s.heap.objs.size,_,I.laid (a:=s.heap.objs.size) (o:=.dK []) (t':=s.toks) (fun _ _ q=>Heap.get?_push_of_some _ q) (Nat.le_refl _) (dk_empty s.heap I.big),rfl,h _ (I.hok.fresh (Nat.le_refl _))⟩
theorem pe_dnewT:PE X (.Dict [] [] pos) tDNewT:=fun pins s σ H Q I h =>
 wpAny_Dict_empty ⟨.ref s.heap.objs.size,_,I.laid (a:=s.heap.objs.size) (o:=.dT []) (t':=s.toks) (fun _ _ q=>Heap.get?_push_of_some _ q) (Nat.le_refl _) (dt_empty s.heap I.big),rfl,h _ (I.hok.fresh (Nat.le_refl _))⟩
end
structure M1 (X:Cx) (o:Expr) (m:Str) (apos:Pos) (e:Expr) (cpos:Pos):Prop where
 base:attributeBase o m X.env (eval o X.env)=eval o X.env
 few:((backTo cpos (starEach [e] X.env)).all (fun x=>!x.1) && (backToKw cpos (keywordEach [] X.env)).all (fun x=>x.1.isSome)
  && decide (([e]:List Expr).length+([]:List Keyword).length+(if ([]:List Keyword).isEmpty then 0 else 1) < 30))=true
 line:(apos.endLine == cpos.line)=true
 trees:backTo cpos (starEach [e] X.env)=[(false,eval e X.env)]
def IsD (H:Hp) (a:Addr):Prop:=(∃ kvs,Rd H a (.dK kvs))∨∃ kvs,Rd H a (.dT kvs)
theorem isD_at {X:Cx} {pins:List (Addr×Obj)} {σ:St} {H:Hp} {s:Shared} {a:Addr} (I:Inv X pins σ H s) (d:IsD H a) :
  s.TypeIs (.ref a) "dict"∧(∀ b,Value.ref a=.ref b→∃ ob,s.heap.get? b=some ob∧ob.dict=none)∧(a == sysModules)=false:=by
 rcases d with ⟨kvs,e⟩ | ⟨kvs,e⟩
 ·obtain ⟨_,hd,vs,_,dd⟩:=dk_rd I.hok e
  refine ⟨dd.typeIs,fun b q=>?_,hd⟩
  cases q
  obtain ⟨ob,_,_,h1,h2,_⟩:=dd
  exact ⟨ob,h1,h2.2.1⟩
 ·obtain ⟨_,hd,xs,_,dd⟩:=dt_rd I.hok e
  refine ⟨dd.typeIs,fun b q=>?_,hd⟩
  cases q
  obtain ⟨ob,_,_,h1,h2,_⟩:=dd
  exact ⟨ob,h1,h2.2.1⟩
section
variable {X:Cx} {pins:List (Addr×Obj)} {σ:St} {H:Hp} {s:Shared} {a:Addr} {y d:V} {u r:Value} {o:Option V} {A:Around} {E:Value→Shared→Prop}
theorem d_get1 {Q:Value→Shared→Prop} (hu:A.units+1 < cLine) (I:Inv X pins σ H s) (g:DGet H a y o) (ry:RelV y u) (h:∀ w' s',Inv X pins σ H s'→RelV (o.getD .non) w'→Q w' s') :
  wpAny (model X.prog X.w) A (call (.builtin "dict.get") [.ref a,u]) Q E s:=by
 rcases g with ⟨kvs,k,e,ey,l⟩ | ⟨kvs,k,b,e,ey,eb,l⟩
 ·subst ey
  obtain ⟨z,hd,vs,rel,dd⟩:=dk_rd I.hok e
  refine call_meetsIn PySem.F.slot_dict_get dd.typeIs PySem.F.entry_dict_get (PySem.F.args_dict_get_2 _ _) (meets_dict_get (mixKind X.prog X.w) a (kV_is ry) hd) ⟨_,dd.mapOf,h _ _ (I.tok _) ?_⟩
  rw [l]
  exact (rel.val k).getD rfl
 ·subst ey
  cases (show u=Value.ref b from ry)
  obtain ⟨z,hd,xs,rel,dd⟩:=dt_rd I.hok e
  refine call_meetsIn PySem.F.slot_dict_get dd.typeIs PySem.F.entry_dict_get (PySem.F.args_dict_get_2 _ _) (meetsH_dict_get (tupleKind (mixKind X.prog X.w)) a b hd) ⟨tupleKind_room_in1 hu,k,xs,key_of I.hok eb,dd,h _ _ (I.tok _) ?_⟩
  rw [l]
  exact (rel.val k).getD rfl
end
def tDGet1 (td ty:TE):TE:=fun σ H Q=>td σ H fun x H1=>∃ a,x=.ref a∧IsD H1 a∧ty σ H1 fun y H2=>∃ o,DGet H2 a y o∧Q (o.getD .non) H2
section
variable {X:Cx} {o e f:Expr} {apos cpos:Pos} {td ty tx:TE}
theorem pe_dget1 (hu:X.A.units+1 < cLine) (ho:PE X o td) (he:PE X e ty) (m:M1 X o "get" apos e cpos):PE X (.Call (.Attribute o "get" apos) [e] [] cpos) (tDGet1 td ty):=by
 intro pins s σ H Q I h
 refine wpAny_Call_method m.base m.few m.line PySem.F.plainAttrs_dict PySem.F.slot_dict_get PySem.F.type_dict_get (thn (ho pins s σ H _ I h) fun u s1 ⟨x,H1,I1,rx,a,ex,d,q1⟩=>?_)
 subst ex
 obtain rfl:u=Value.ref a:=rx
 obtain ⟨t1,t2,_⟩:=isD_at I1 d
 refine ⟨t1,t2,?_⟩
 rw [m.trees]
 refine Calls.callWith_builtin rfl (Calls.evalArgs_plain (Calls.spliced_cons (thn (he pins s1 σ H1 _ I1 q1) fun iv s2 ⟨y,H2,I2,ry,ov,g,q2⟩=>Calls.spliced_nil ?_)))
 exact d_get1 hu I2 g ry fun w' s3 I3 rw'=>⟨_,H2,I3,rw',q2⟩
end
end L2
namespace Att
open PySem PySem.W PySem.Calls PyProof.Rows
theorem ints_of_wellAll {P:Params} {h:Heap}:∀ (ns:List Int) (vs:List Value),WellAll P h vs (ns.map WData.int)→IntsAre vs ns:=by
 intro ns
 induction ns with
 | nil =>
  intro vs w
  rw [List.map_nil] at w
  cases w
  exact .nil
 | cons n ns ih =>
  intro vs w
  rw [List.map_cons] at w
  cases w with
  | cons a b =>
   cases a
   exact .cons _ _ (ih _ b)
theorem script_of {l:OpenLaw} {n:Nat} (hn:l.most=some n) {P:Params} {h:Heap} {args:List WData} {vals:List Value}
  (hpre:l.row.toRowW.claim.pre args=true) (hwl:WellAll P h vals args) :
  ∃ a vs ns,vals=[Value.ref a]∧args=[WData.list (ns.map WData.int)]∧h.get? a=some { cls:=.type "list",data:=.seq vs.toArray }∧IntsAre vs ns∧ns.length≤n:=by
 have hsh:WShape.hasAll [] args [.list .int]=true:=(pre_splitW hpre).1
 have hc:l.pre.holds [] { args:=args }=true:=(pre_splitW hpre).2
 obtain ⟨d,r,rfl,h1,h2⟩:=hasAllW_cons hsh
 obtain rfl:=hasAllW_nil h2
 obtain ⟨xs,rfl,h3⟩:=hasW_list h1
 obtain ⟨ns,rfl⟩:=items_int h3
 have hlen:ns.length≤n:=by
  unfold OpenLaw.pre at hc
  have h4:(WTm.not (.lt (.lit (.int (n:Int))) (.len (.arg 0)))).holds [] { args:=[.list (ns.map .int)] }=true:=by
   have h4:=(holds_andW hc).1
   rw [hn] at h4
   exact h4
  have h5:=condW_of h4 (w_not (w_lt w_lit (w_len_list (w_arg rfl))))
  rw [List.length_map] at h5
  refine Nat.le_of_not_lt fun q=>?_
  have q':(n:Int) < ((ns.length:Nat):Int):=by omega
  first
   | (rw [decide_eq_true q'] at h5;exact absurd h5 (by decide))
   | (simp at h5;omega)
 cases hwl with
 | cons w1 w2 =>
  cases w2
  cases w1 with
  | list ho hall=>exact ⟨_,_,ns,rfl,rfl,ho,ints_of_wellAll ns _ hall,hlen⟩
theorem post_true (l:OpenLaw) (args:List WData):l.row.toRowW.claim.post args (.bool true) args=true :=
 postW_of (r:=l.row.toRowW) (X:=(true == true))
  (show WShape.has [] (.bool true) .bool=true by first | rfl | decide | simp [WShape.has,WShape.arms,WShape.armsAll])
  (show (WTm.eq .res (.lit (.bool true))).value [] { args:=args,res:=some (.bool true),after:=args }=some (.bool (true == true)) from w_eq_bool (w_res rfl) w_lit) rfl
theorem attach_call {l:OpenLaw} {n:Nat} {q:Program} {loose:List Str} {XP:(Str→Option Value)→Heap→Prop} {YP:World→Heap→Prop} {d:DefRec}
  (hn:l.most=some n) (hdf:d.params.defaults=[])
  (call:∀ (w:World) (s₀ s₁:Shared) (mg mb:Str→Option Value) (fa:Addr) (o:Obj) (pm cd doc:Value) (a:Addr) (vs:List Value) (ns:List Int),
   Ground q loose [] XP w s₀ mg mb s₁.heap→YP w s₁.heap →
   s₁.heap.get? fa=some o→o.data=.func (docDef d.name d.params d.body d.scope pm cd doc)→s₁.heap.CodeRec cd d.name→mg d.name=some (.ref fa) →
   s₁.heap.get? a=some { cls:=.type "list",data:=.seq vs.toArray }→IntsAre vs ns→ns.length≤n→s₁.gens=#[] →
   codeAny (model l.prog w) callerA (.call (.ref fa) ⟨[.ref a],[]⟩) (fun r s'=>r=.ok (.ret (.bool true))∧OldK s₁.heap s'.heap∧s'.os=s₁.os∧AllBare s'.gens) s₁) :
  WalkO q loose XP YP l.row.toRowW d [] (fun f vs=>PySem.call f vs):=by
 intro w s₀ s₁ mg mb G Y fa o pm cd doc dV kV ho hd hcd hD hmg hg args vals as hpre hlay hrd hwl hlo
 obtain rfl:dV=.none:=Dflts.none hD hdf
 obtain rfl:kV=.none:=Dflts.noKw hD
 obtain ⟨a,vs,ns,rfl,rfl,hobj,hints,hlen⟩:=script_of hn hpre hwl
 refine enter_call (codeAny_mono (call w s₀ s₁ mg mb fa o pm cd doc a vs ns G Y ho (fd_plain hd) hcd hmg hobj hints hlen hg) fun r s' hq=>?_)
 obtain ⟨rfl,h2,h3,h4⟩:=hq
 exact ⟨.inl ⟨.bool true,.bool true,[],rfl,fun _=>rfl,.bool true,post_true l _,fun _=>⟨List.Pairwise.nil,fun _ hm=>(nomatch hm)⟩⟩,h2,h3,h4⟩
section
variable {prog:Program} {w:World} {A:Around} {E:Value→Shared→Prop} {s:Shared} {K:Frag}
end
end Att
namespace L2
open PySem PySem.Spec PyProof.Rows
theorem vals_ints:∀ {vs:List Value} {ns:List Int},IntsAre vs ns→Vals (ns.map V.int) vs
 | _,_,.nil=>.nil
 | _,_,.cons n t h=>.cons ⟨t,rfl⟩ (vals_ints h)
def Only (H:Hp):Prop:=∀ b,H b=none∨∃ o xs,H b=some (.frz o (.lst xs))
theorem law_call {P:Program} {w:World} {K:PySem.W.Frag} {mg mb:Str→Option Value} {CX:CXT} {k:Nat} {fa a:Addr} {fd:FuncData} {x:Str} {sp:Sp} {s₁:Shared} {vs:List Value} {ns:List Int}
  (KX:K.In s₁.heap) (hns:s₁.heap.Ns mainGlobals mg) (hb:s₁.heap.Ns builtinsNs mb) (hbb:∀ x:Str,x≠"__name__"→mb x=bootBuiltins x) (hlim:s₁.heap.NoLimit) (hg:s₁.gens=#[])
  (ha:s₁.heap.get? a=some { cls:=.type "list",data:=.seq vs.toArray }) (hi:IntsAre vs ns) (hl:ns.length≤sizeLine) (hr:Room k callerA)
  (F:∀ base:Heap,K.In base→base.Ns mainGlobals mg→FnOk P w K mg base CX k fa fd [x] sp) (hbind:∀ (s:Shared) (u:Value),BindsTo s fd ⟨[u],[]⟩ [(x,u)])
  (hsp:∀ H:Hp,Only H→SqL K H a (ns.map V.int)→sp [.ref a] H (fun v _=>v=.bl true) fun _ _ _=>False)
  (hCX:∀ H e s',CX [] H s₁ (fun _ _ _=>False) e s'→False) :
  codeAny (model P w) callerA (.call (.ref fa) ⟨[.ref a],[]⟩) (fun r s'=>r=.ok (.ret (.bool true))∧OldK s₁.heap s'.heap∧s'.os=s₁.os∧AllBare s'.gens) s₁:=by
 have rv:=vals_ints hi
 have lenV:=hi.length
 have core:∀ H:Hp,Only H→SqL K H a (ns.map V.int)→HOk P w H s₁.heap→(∀ b,H b≠none→b=a)→(H a≠none→K.lookup a=none) →
   codeAny (model P w) callerA (.call (.ref fa) ⟨[.ref a],[]⟩) (fun r s'=>r=.ok (.ret (.bool true))∧OldK s₁.heap s'.heap∧s'.os=s₁.os∧AllBare s'.gens) s₁:=by
  intro H hO hS hok hA hK
  have base_of:∀ {b:Addr} {o:Obj},s₁.heap.get? b=some o→H b=none→(hidT s₁.heap H).get? b=some o:=fun e n=>hidT_get e n
  have noA:∀ {b:Addr} {o:Obj} {es:Array DictEntry} {ep:Nat},s₁.heap.get? b=some o→o.data=.dict es ep→H b=none:=fun {b o es ep} e d=>by
   cases q:H b with
   | none=>rfl
   | some u =>
    have e':b=a:=hA b (by rw [q];simp)
    subst e'
    rw [ha] at e;cases e
    have d':Data.seq vs.toArray _=Data.dict es ep:=d
    cases d'
  have nsK:∀ {b:Addr} {m:Str→Option Value},s₁.heap.Ns b m→(hidT s₁.heap H).Ns b m:=fun {b m} ⟨o,es,ep,e,d,r⟩=>⟨o,es,ep,base_of e (noA e d),d,r⟩
  have hKb:K.In (hidT s₁.heap H):=fun b o e=>base_of (KX b o e) (by
   cases q:H b with
   | none=>rfl
   | some u =>
    have e':b=a:=hA b (by rw [q];simp)
    subst e'
    rw [hK (by rw [q];simp)] at e;cases e)
  have hM:Mod K mg (hidT s₁.heap H):=⟨hKb,nsK hns,⟨mb,nsK hb,hbb⟩,let ⟨mc,h1,h2⟩:=hlim;⟨mc,nsK h1,h2⟩⟩
  have e0:Env0 P w K mg (hidT s₁.heap H) callerA [] s₁ H:=⟨rfl,hM,fun b o e=>of_hidT e,Nat.le_of_eq (hidT_size _ _),trivial,fun b hb=>absurd (show b∈([]:List Addr) from hb) (by simp),hok,.of_eq hg⟩
  refine codeAny_mono ((F _ hKb (nsK hns)).run callerA [] s₁ H ⟨[.ref a],[]⟩ [.ref a] [.ref a] _ _ hr e0 (hbind s₁ (.ref a)) (.cons rfl .nil) (hsp H hO hS)) fun r s' h=>?_
  cases r with
  | error e=>exact (hCX H e s' h).elim
  | ok fl =>
   cases fl with
   | next=>exact False.elim h
   | brk=>exact False.elim h
   | cont=>exact False.elim h
   | ret u =>
    obtain ⟨v,H',os,bare,un,hok',r',q⟩:=h
    have q':v=.bl true:=q
    subst q'
    obtain rfl:u=Value.bool true:=r'
    refine ⟨rfl,OldK.of_keep fun b o e=>?_,os,bare⟩
    cases q:H b with
    | none=>exact un.keep b o e q (by intro z;exact absurd (show b∈([]:List Addr) from z) (by simp)) (by simp)
    | some u =>
     rcases hO b with z | ⟨ob,xs,z⟩
     ·rw [q] at z;cases z
     ·have z2:=un.frzs b ob _ z
      obtain ⟨e1,_⟩:=hok b _ z
      obtain ⟨e2,_⟩:=hok' b _ z2
      rw [e] at e1;cases e1
      exact e2
 cases hk:K.lookup a with
 | some o =>
  have e:=KX a o hk
  rw [ha] at e
  cases e
  refine core (fun _=>none) (fun _=>.inl rfl) (.inr ⟨_,vs.toArray,_,hk,rfl,rfl,rfl,by rw [List.size_toArray,lenV];exact hl,by simpa using rv⟩) (fun b u z=>by have z':(none:Option HO)=some u:=z;cases z') (fun b z=>absurd rfl z) fun z=>absurd rfl z
 | none =>
  refine core (fun b=>if b=a then some (.frz { cls:=.type "list",data:=.seq vs.toArray } (.lst (ns.map V.int))) else none) (fun b=>?_) (.inl (.inr ⟨{ cls:=.type "list",data:=.seq vs.toArray },if_pos rfl⟩)) (fun b u z=>?_) (fun b z=>?_) fun _=>hk
  ·by_cases hb:b=a
   ·exact .inr ⟨_,_,if_pos hb⟩
   ·exact .inl (if_neg hb)
  ·by_cases hb:b=a
   ·have z':=(if_pos hb).symm.trans z
    cases z'
    subst hb
    exact ⟨ha,by rw [List.length_map];exact hl,vs,_,rv,ha⟩
   ·have z':=(if_neg hb).symm.trans z
    cases z'
  ·by_cases hb:b=a
   ·exact hb
   ·exact absurd (if_neg hb) z
end L2
namespace L2
open PySem PySem.Spec PyProof.Rows
abbrev KOf {K:PySem.W.Frag} {h:Heap} (_:K.In h):PySem.W.Frag:=K
theorem walk_of {l:PySem.W.OpenLaw} {n k:Nat} {q:Program} {loose:List Str} {XP:(Str→Option Value)→Heap→Prop} {YP:World→Heap→Prop} {d:DefRec} {K:Params→PySem.W.Frag} {CX:World→CXT} {sp:World→Sp} {x:Str}
  (hn:l.most=some n) (hn2:n≤sizeLine) (hdf:d.params.defaults=[]) (hr:Room k callerA)
  (hY:∀ (w:World) (h:Heap),YP w h→(K w.params).In h)
  (F:∀ (w:World) (mg:Str→Option Value) (fa:Addr) (h:Heap),(K w.params).In h→h.Ns mainGlobals mg→mg d.name=some (.ref fa) →
   ∃ fd:FuncData,(∀ (s:Shared) (u:Value),BindsTo s fd ⟨[u],[]⟩ [(x,u)]) ∧
    ∀ base:Heap,(K w.params).In base→base.Ns mainGlobals mg→FnOk l.prog w (K w.params) mg base (CX w) k fa fd [x] (sp w))
  (hsp:∀ (w:World) (H:Hp) (a:Addr) (ns:List Int),ns.length≤n→Only H→SqL (K w.params) H a (ns.map V.int)→sp w [.ref a] H (fun v _=>v=.bl true) fun _ _ _=>False)
  (hCX:∀ (w:World) (H:Hp) (s:Shared) (e:Value) (s':Shared),CX w [] H s (fun _ _ _=>False) e s'→False) :
  PySem.W.WalkO q loose XP YP l.row.toRowW d [] (fun f vs=>PySem.call f vs):=by
 refine Att.attach_call hn hdf fun w s₀ s₁ mg mb fa o pm cd doc a vs ns G Y ho hd hcd hmg hobj hints hlen hg=>?_
 have KX:=hY w _ Y
 obtain ⟨fd,hb,hF⟩:=F w mg fa _ KX G.T.g hmg
 exact law_call KX G.T.g G.T.b G.T.builtins G.T.nolimit hg hobj hints (Nat.le_trans hlen hn2) hr hF hb (fun H hO hS=>hsp w H a ns hlen hO hS) fun H e s'=>hCX w H s₁ e s'
theorem walk_ofK {l:PySem.W.OpenLaw} {n k:Nat} {q:Program} {loose:List Str} {XP:(Str→Option Value)→Heap→Prop} {YP:World→Heap→Prop} {d:DefRec} {K:Params→PySem.W.Frag} {CX:CXT} {sp:PySem.W.Frag→Sp} {x:Str}
  (hn:l.most=some n) (hn2:n≤sizeLine) (hdf:d.params.defaults=[]) (hr:Room k callerA)
  (hY:∀ (w:World) (h:Heap),YP w h→(K w.params).In h)
  (F:∀ (w:World) (mg:Str→Option Value) (fa:Addr) (h:Heap),(K w.params).In h→h.Ns mainGlobals mg→mg d.name=some (.ref fa) →
   ∃ fd:FuncData,(∀ (s:Shared) (u:Value),BindsTo s fd ⟨[u],[]⟩ [(x,u)]) ∧
    ∀ base:Heap,(K w.params).In base→base.Ns mainGlobals mg→FnOk l.prog w (K w.params) mg base CX k fa fd [x] (sp (K w.params)))
  (hsp:∀ (K:PySem.W.Frag) (H:Hp) (a:Addr) (ns:List Int),ns.length≤n→Only H→SqL K H a (ns.map V.int)→sp K [.ref a] H (fun v _=>v=.bl true) fun _ _ _=>False)
  (hCX:∀ (H:Hp) (s:Shared) (e:Value) (s':Shared),CX [] H s (fun _ _ _=>False) e s'→False) :
  PySem.W.WalkO q loose XP YP l.row.toRowW d [] (fun f vs=>PySem.call f vs) :=
 walk_of (K:=K) (CX:=fun _=>CX) (sp:=fun w=>sp (K w.params)) hn hn2 hdf hr hY F (fun w H a ns h1 h2 h3=>hsp (K w.params) H a ns h1 h2 h3) fun _ H s e s'=>hCX H s e s'
end L2
namespace L2
open PySem PySem.Spec PyProof.Rows
def inClass (s:Stmt) (j:Nat):Stmt:=match s with
 | .ClassDef _ _ _ body _ _ _ _ _ _ _=>body.getD j (.Pass ⟨0,0,0,0⟩)
 | _=>.Pass ⟨0,0,0,0⟩
def defArgs (s:Stmt):Arguments:=match s with
 | .FunctionDef _ a _ _ _ _ _ _ _ _=>a
 | _=>{ posonlyargs:=[],args:=[],vararg:=none,kwonlyargs:=[],kw_defaults:=[],kwarg:=none,defaults:=[] }
def defBody (s:Stmt):List Stmt:=match s with
 | .FunctionDef _ _ b _ _ _ _ _ _ _=>b
 | _=>[]
def defScope (s:Stmt):Scope:=match s with
 | .FunctionDef _ _ _ _ _ _ sc _ _ _=>sc
 | _=>{ kind:=.function,names:=[],isGenerator:=false,isCoroutine:=false }
abbrev CX0:CXT:=fun _ _ _ _ _ _=>False
abbrev E0:XK:=fun _ _ _=>False
theorem pass0 {X:Cx}:Passes CX0 X E0:=fun _ _ _ _ _ _ _ h=>h.elim
structure Fun (K:PySem.W.Frag) (x qual:Str) (st:Stmt) (f:Addr) (fd:FuncData):Prop where
 ex:∃ (oc:Value) (od:Option Addr) (kV doc pm:Value) (an:Option Addr) (cdv ct:Value) (osl:Array (Option Value)),
  fd=PySem.W.fnOf x qual (defArgs st) (defBody st) (defScope st) .none kV doc pm an cdv ct∧K.lookup f=some ⟨oc,od,.func fd,osl⟩∧PySem.W.codeIn K cdv qual=true
 kp:PySem.W.keepIn K (.ref f)=true
section
variable {P:Program} {w:World} {K:PySem.W.Frag} {mg:Str→Option Value} {base:Heap}
theorem Fun.ok {x qual:Str} {st:Stmt} {f:Addr} {fd:FuncData} {N ps:List Str} {k:Nat} {sp:Sp} (F:Fun K x qual st f fd) (S:FnScope N ps (defScope st)) (len:∀ vs H Q E,sp vs H Q E→vs.length=ps.length)
  (hbody:∀ (cdv:Value) (A:Around) (outer:List Env) (s:Shared) (H:Hp) (vs:List V) (Q:VK) (E:XK),Room k (A.deeper (envOfC qual (defScope st) s.heap.objs.size f cdv))→sp vs H Q E →
   ∃ t,PSs (cxOf CX0 P w K mg base N qual (defScope st) f cdv A outer s H E).nox (defBody st) t∧t { nx:=fun _ H'=>Q .non H',rt:=Q } (start N vs) H):FnOk P w K mg base CX0 (k+1) f fd ps sp:=by
 obtain ⟨oc,od,kV,doc,pm,an,cdv,ct,osl,rfl,lk,hcd⟩:=F.ex
 refine fn_of lk hcd S len fun A outer s H vs Q E hr hsp=>?_
 obtain ⟨t,h,q⟩:=hbody cdv A outer s H vs Q E hr hsp
 exact ⟨t,h.nox,q⟩
theorem Fun.binds {x qual:Str} {st:Stmt} {f:Addr} {fd:FuncData} {ps:List Str} (F:Fun K x qual st f fd)
  (h:∀ (kV doc pm:Value) (an:Option Addr) (cdv ct:Value) (us:List Value),us.length=ps.length→bindArgs (PySem.W.fnOf x qual (defArgs st) (defBody st) (defScope st) .none kV doc pm an cdv ct) ⟨us,[]⟩=pure (ps.zip us)):Binds K fd ps []:=by
 obtain ⟨oc,od,kV,doc,pm,an,cdv,ct,osl,rfl,lk,hcd⟩:=F.ex
 exact .all (h kV doc pm an cdv ct)
theorem fun_mk {x qual:Str} {st:Stmt} {f:Addr} {oc:Value} {od an:Option Addr} {osl:Array (Option Value)} {kV doc pm cdv ct:Value} (l:K.lookup f=some ⟨oc,od,.func (PySem.W.fnOf x qual (defArgs st) (defBody st) (defScope st) .none kV doc pm an cdv ct),osl⟩)
  (c:PySem.W.codeIn K cdv qual=true) (k:PySem.W.keepIn K (.ref f)=true):Fun K x qual st f (PySem.W.fnOf x qual (defArgs st) (defBody st) (defScope st) .none kV doc pm an cdv ct):=⟨⟨oc,od,kV,doc,pm,an,cdv,ct,osl,rfl,l,c⟩,k⟩
end
theorem small1000 {n:Nat} (h:n≤1000):n < sizeLine:=Nat.lt_of_le_of_lt h (by decide)
section
variable {X:Cx}
theorem pv (i:Nat) {x:Str} {pos:Pos} (hN:X.N[i]?=some x:=by rfl) (hv:Vis X.env.scope x:=by first | exact Or.inl rfl | exact Or.inr (Or.inl rfl) | exact Or.inr (Or.inr rfl)) (hd:(x == ("__debug__":Str))=false:=by decide)
  (hcd:(x == ("__classdict__":Str))=false:=by decide):PE X (.Name x pos) (tVar i):=pe_var hN hv hd hcd
end
def Same (H H':Hp):Prop:=∀ b o,H b=some o→H' b=some o
theorem Same.refl (H:Hp):Same H H:=fun _ _ h=>h
theorem Same.trans {H H1 H2:Hp} (a:Same H H1) (b:Same H1 H2):Same H H2:=fun c o h=>b c o (a c o h)
theorem Same.free {H H':Hp} (e:Same H H') {l:Addr} (h:H' l=Option.none):H l=Option.none:=by
 cases q:H l with
 | none=>rfl
 | some o =>
  rw [e l o q] at h
  cases h
theorem Same.seq {K:PySem.W.Frag} {H H':Hp} {a:Addr} {xs:List V} (e:Same H H') (h:SqL K H a xs):SqL K H' a xs:=by
 rcases h with (h | ⟨o,h⟩) | h
 ·exact .inl (.inl (e _ _ h))
 ·exact .inl (.inr ⟨o,e _ _ h⟩)
 ·exact .inr h
section
variable {κ:Type} [DecidableEq κ]
theorem nd_snoc:∀ {l:List κ} {k:κ},l.Nodup→¬ k∈l→(l++[k]).Nodup
 | [],k,_,_=>by simp
 | a :: r,k,h,hk=>by
  obtain ⟨h1,h2⟩:=List.nodup_cons.mp h
  show (a :: (r++[k])).Nodup
  refine List.nodup_cons.mpr ⟨fun m=>?_,nd_snoc h2 fun m=>hk (List.mem_cons.mpr (Or.inr m))⟩
  rcases List.mem_append.mp m with q | q
  ·exact h1 q
  ·exact hk (List.mem_cons.mpr (Or.inl (List.mem_singleton.mp q).symm))
end
end L2
namespace PySem
open Sem (wp)
theorem forIn_cl {env:Env} {f:Str×NameKind→List (Str×Addr)→Sem (ForInStep (List (Str×Addr)))}
  (h1:∀ x r,x.2≠.free→f x r=pure (.yield r)) (h2:∀ x r c,x.2=.free→env.cells.lookup x.1=some c→f x r=pure (.yield ((x.1,c) :: r))) :
  ∀ (l:List (Str×NameKind)) (acc:List (Str×Addr)),(∀ x∈l,x.2=.free→∃ c,env.cells.lookup x.1=some c)→(∀ x c,acc.lookup x=some c→env.cells.lookup x=some c) →
   ∃ cl,forIn l acc f=pure cl∧(∀ x c,cl.lookup x=some c→env.cells.lookup x=some c)∧(∀ x∈l,x.2=.free→∃ c,cl.lookup x.1=some c)∧(∀ x c,acc.lookup x=some c→∃ c',cl.lookup x=some c')
 | [],acc,_,ha=>⟨acc,rfl,ha,(fun _ h=>nomatch h),(fun x c h=>⟨c,h⟩)⟩
 | x :: l,acc,h,ha=>by
  by_cases hf:x.2=.free
  ·obtain ⟨c,hc⟩:=h x List.mem_cons_self hf
   have hself:((x.1,c) :: acc).lookup x.1=some c:=by rw [List.lookup_cons];simp
   have hne:∀ y,y≠x.1→((x.1,c) :: acc).lookup y=acc.lookup y:=fun y e=>by
    have:(y == x.1)=false:=beq_eq_false_iff_ne.mpr e
    rw [List.lookup_cons,this]
   have ha':∀ y d,((x.1,c) :: acc).lookup y=some d→env.cells.lookup y=some d:=fun y d hy=>by
    by_cases e:y=x.1
    ·subst e;rw [hself] at hy;cases hy;exact hc
    ·rw [hne y e] at hy;exact ha y d hy
   obtain ⟨cl,e1,e2,e3,e4⟩:=forIn_cl h1 h2 l ((x.1,c) :: acc) (fun y hy=>h y (List.mem_cons_of_mem _ hy)) ha'
   refine ⟨cl,?_,e2,fun y hy hk=>?_,fun y d hy=>?_⟩
   ·rw [List.forIn_cons,h2 x acc c hf hc,pure_bind];exact e1
   ·rcases List.mem_cons.mp hy with rfl | hy
    ·exact e4 _ c hself
    ·exact e3 y hy hk
   ·by_cases e:y=x.1
    ·subst e;exact e4 _ c hself
    ·exact e4 y d (by rw [hne y e];exact hy)
  ·obtain ⟨cl,e1,e2,e3,e4⟩:=forIn_cl h1 h2 l acc (fun y hy=>h y (List.mem_cons_of_mem _ hy)) ha
   refine ⟨cl,?_,e2,fun y hy hk=>?_,e4⟩
   ·rw [List.forIn_cons,h1 x acc hf,pure_bind];exact e1
   ·rcases List.mem_cons.mp hy with rfl | hy
    ·exact (hf hk).elim
    ·exact e3 y hy hk
theorem closure_ok {scope:Scope} {env:Env} (h:∀ x∈scope.names,x.2=.free→∃ c,env.cells.lookup x.1=some c) :
  ∃ cl,closureFor scope env=pure cl∧(∀ x c,cl.lookup x=some c→env.cells.lookup x=some c)∧∀ x∈scope.names,x.2=.free→∃ c,cl.lookup x.1=some c:=by
 obtain ⟨cl,e1,e2,e3,_⟩:=forIn_cl (env:=env) (f:=fun x r=>match x with | (name,kind)=>if (kind == .free)=true then (do let c ← cellOf env name;pure (ForInStep.yield ((name,c) :: r))) else pure (ForInStep.yield r))
  (fun x r hx=>by
   obtain ⟨n,k⟩:=x
   have:(k == NameKind.free)=false:=by simpa using hx
   simp only [this,Bool.false_eq_true,if_false])
  (fun x r c hx hc=>by
   obtain ⟨n,k⟩:=x
   have hx:k=.free:=hx
   have hc:env.cells.lookup n=some c:=hc
   subst hx
   simp only [cellOf,hc,beq_self_eq_true,if_true,pure_bind]) scope.names [] h (by simp)
 refine ⟨cl,?_,e2,e3⟩
 unfold closureFor
 first
  | (rw [show _=pure cl from e1];rfl)
  | exact (congrArg (· >>= pure) e1).trans (pure_bind ..)
section
variable {prog:Program} {w:World} {A:Around} {R:Result→Shared→Prop} {s:Shared}
theorem codeAny_compLoop_gen {elt target iter:Expr} {scope:Scope} {pos:Pos} {it acc:Value} {env:Env} (I:Nat→Shared→Prop)
  (turn:∀ n s,I n s→wpAny (model prog w) A (pyNext it) (fun r s₁=>match r with
   | none=>R (.ok .next) s₁
   | some v=>wpAny (model prog w) A (letOwnedTupleGo target it v) (fun _ s₂=>wpAny (model prog w) A (assign target env v) (fun _ s₃=>wpAny (model prog w) A (eval elt env) (fun x s₄ =>
     wpAny (model prog w) A (call (.builtin "list.append") [acc,x]) (fun _ s₅=>∃ m,m < n∧I m s₅) (fun _ _=>False) s₄) (fun _ _=>False) s₃) (fun _ _=>False) s₂) (fun _ _=>False) s₁) (fun _ _=>False) s)
  (n:Nat) (h:I n s):codeAny (model prog w) A (.compLoop (.ListComp elt [⟨target,iter,[],0⟩] scope pos) 0 it acc env) R s:=by
 refine codeAny_loop rfl I (fun n s hI=>?_) n h
 show wpAny _ _ ((compTurn (.ListComp elt [⟨target,iter,[],0⟩] scope pos) 0 it acc env).onRaise (fun x=>do noteFrame x env;theTreesLotGoes x)) _ _ s
 refine wpAny_noted ?_
 rw [compTurn_list1]
 refine wpAny_bind (wpAny_standAt (wpAny_bind (wpAny_mono (turn n s hI) (fun r s₁ h₁=>?_) fun _ _ h'=>h'.elim)))
 cases r with
 | none=>exact wpAny_pure h₁
 | some v =>
  exact wpAny_bind (wpAny_mono h₁ (fun _ s₂ h₂=>wpAny_bind (wpAny_mono h₂ (fun _ s₃ h₃=>wpAny_bind (wpAny_bind (wpAny_mono h₃ (fun x s₄ h₄=>wpAny_bind (wpAny_mono h₄
   (fun _ s₅ h₅=>wpAny_pure (wpAny_pure ⟨rfl,h₅⟩)) fun _ _ h'=>h'.elim)) fun _ _ h'=>h'.elim))) fun _ _ h'=>h'.elim)) fun _ _ h'=>h'.elim)
end
end PySem
namespace L2
open PySem PySem.Spec PyProof.Rows
section
variable {X:Cx} {pins:List (Addr×Obj)} {σ:St} {H:Hp} {s:Shared} {h':Heap}
theorem Inv.turnL {t':Nat} {ch:List Addr} {t:Addr} {o:HO} (I:Inv X pins σ H s) (hf:∀ b∈ch,FpOk X pins H b)
  (k:∀ b u,b∉ch→s.heap.get? b=some u→h'.get? b=some u) (hp:s.heap.objs.size≤t) (new:ObjOk X.prog X.w (upd H t o) h' t o) :
  Inv X pins σ (upd H t o) { s with heap:=h',toks:=t' }:=by
 have hn:H t=none:=I.hok.fresh hp
 have nch:∀ b u,H b=some u→b∉ch:=fun b u e z=>by rw [(hf b z).1] at e;cases e
 have net:∀ b u,s.heap.get? b=some u→b≠t:=fun b u e=>Nat.ne_of_lt (Nat.lt_of_lt_of_le (Heap.lt_size e) hp)
 refine I.step (g':=s.gens) (d':=s.drawn) (ch:=ch) (fun b hb=>?_) (fun b u _ _ hc e _=>k b u hc e) (fun b u _ _ hc e _=>⟨u.slots,k b u hc e⟩)
  (fun b u _ e n=>by rw [upd_ne (net b u e)];exact n) (fun b u hc e=>⟨u,k b u hc e⟩)
  (fun b xs e=>by rw [upd_ne (ne_of_none e hn)];exact e) (fun b u xs e=>by rw [upd_ne (ne_of_none e hn)];exact e)
  (fun b ps e=>⟨#[],by rw [upd_ne (ne_of_none e hn),e];simp⟩) (fun m hm=>?_) (fun b u e=>?_) I.bare
 ·obtain ⟨_,f1,_,f3,f4,f5⟩:=hf b hb
  exact ⟨f3,f1,f4,f5⟩
 ·obtain ⟨ob,es,ep,ho,r⟩:=hm
  exact ⟨ob,es,ep,k _ ob (fun z=>(hf _ z).2.1 rfl) ho,r⟩
 ·by_cases hb:b=t
  ·subst hb;rw [upd_same] at e;cases e;exact new
  ·rw [upd_ne hb] at e
   refine (I.hok b u e).stay (fun c v hc q=>k c v ?_ q) (fun c q=>by rw [upd_ne (ne_of_none q hn)];exact q) fun c xs q=>by rw [upd_ne (ne_of_none q hn)];exact q
   rcases hc with z | z
   ·rw [z];exact nch b u e
   ·exact nch c _ z
end
def Ite (K:PySem.W.Frag) (a:Addr):It :=
  ⟨fun i H=>∃ xs x,SqL K H a xs∧xs[i]?=some x,
   fun i H x H'=>∃ t v,x=.ref t∧H t=none∧H'=upd H t (.tup [.int (i:Int),v])∧∀ xs,SqL K H a xs→xs[i]?=some v,
   fun i H=>∃ xs,SqL K H a xs∧xs.length≤i⟩
theorem turn_enum {P:Program} {w:World} {K:PySem.W.Frag} {es:List Expr} {kk:Nat} {pos:Pos} (a it e:Addr) (hne:e≠it) :
  Turn P w K (.Tuple es kk pos) (Ite K a) [e,it] e (fun i h=>(∃ old,IsEnum h e it ((i:Nat):Int) old)∧h.IsListIter it a i) where
 mem:=by simp
 obj:=fun i h st b hb=>by
  obtain ⟨⟨old,he⟩,hi⟩:=st
  rcases List.mem_cons.mp hb with rfl | hb
  ·exact ⟨_,he,fun v z=>by
    have z':Data.fields _=Data.cell v:=z
    cases z'⟩
  ·have eb:=List.mem_singleton.mp hb
   subst eb
   obtain ⟨o,e1,c,d⟩:=hi
   exact ⟨o,e1,fun v z=>by rw [d] at z;cases z⟩
 keep:=fun i h h' st k=>by
  obtain ⟨⟨old,he⟩,hi⟩:=st
  exact ⟨⟨old,k e (by simp) _ he⟩,hi.at fun o q=>k it (by simp) o q⟩
 item:=by
  intro X hP hw hK hc i pins s σ H E I hf st hg
  subst hP hw hK
  obtain ⟨⟨old,he⟩,hi⟩:=st
  obtain ⟨xs,x,hq,hx⟩:=hg
  obtain ⟨its,rv,p,hz⟩:=I.list hq
  obtain ⟨u,hu,ru⟩:=rv.get hx
  have hel:e < s.heap.objs.size:=Heap.lt_size he
  have hil:it < s.heap.objs.size:=by obtain ⟨o,q,_⟩:=id hi;exact Heap.lt_size q
  refine wpAny_pyNext_enum_item he hi p.isList (x:=u) (by simpa using hu) hne fun h1 ho hi1 hT hsz hk=>?_
  refine ⟨_,rfl,wpAny_letOwnedTupleGo_enum ho fun h2 he2 hs2=>?_⟩
  replace hs2:Heap.SameBut e h1 h2:=hs2
  have hT2:h2.get? s.heap.objs.size=some { cls:=.type "tuple",data:=.seq #[.int (i:Int) s.toks,u] }:=(hs2.2 _ (Nat.ne_of_gt hel)).trans hT
  have I1:Inv X pins σ (upd H s.heap.objs.size (.tup [.int (i:Int),x])) { s with heap:=h2,toks:=s.toks+1 } :=
   I.turnL (ch:=[e,it]) hf (fun b o hb q=>by
    have hbe:b≠e:=fun z=>hb (by simp [z])
    have hbi:b≠it:=fun z=>hb (by simp [z])
    exact hs2.extBut b o hbe (hk b o hbe hbi q)) (Nat.le_refl _)
    ⟨by show 2≤sizeLine;decide,[.int (i:Int) s.toks,u],.cons ⟨_,rfl⟩ (.cons ru .nil),⟨_,hT2,rfl,_,rfl⟩⟩
  refine ⟨.ref s.heap.objs.size,_,I1,rfl,⟨_,x,rfl,I.hok.fresh (Nat.le_refl _),rfl,fun ys hy=>by rw [I.list_inj hy hq];exact hx⟩,⟨⟨u,?_⟩,?_⟩,fun b hb=>?_⟩
  ·have:((i+1:Nat):Int)=(i:Int)+1:=by push_cast;rfl
   rw [this];exact he2
  ·exact hi1.extBut hs2.extBut (Ne.symm hne)
  ·have hbl:b < s.heap.objs.size:=by
    rcases List.mem_cons.mp hb with rfl | hb
    ·exact hel
    ·rw [List.mem_singleton.mp hb];exact hil
   rw [upd_ne (Nat.ne_of_lt hbl)]
   exact (hf b hb).1
 done:=by
  intro X hP hw hK hc i pins s σ H E I hf st hg
  subst hP hw hK
  obtain ⟨⟨old,he⟩,hi⟩:=st
  obtain ⟨xs,hq,hx⟩:=hg
  obtain ⟨its,rv,p,hz⟩:=I.list hq
  obtain ⟨f0,f1,f2,f3,f4,f5⟩:=hf it (by simp)
  have hl:=rv.length
  exact wpAny_pyNext_enum_end (I.ok.hd hc) he hi p.isList (by simp;omega) fun h' eb=>⟨rfl,I.turned (t':=s.toks) (fun b o hb e=>eb b o hb e) f0 f1 f3 f4 f5⟩
 self:=fun _ _ _ _ _ st h=>by
  obtain ⟨⟨old,he⟩,_⟩:=st
  exact wpAny_pyIter_enum he h
section
variable {X:Cx}
def iEnum (K:PySem.W.Frag) (ta:TA):TI:=fun σ H R=>ta σ H fun vs H1=>∃ a,vs=[.ref a]∧(∃ xs,SqL K H1 a xs)∧R (Ite K a) H1
theorem pi_enum {es:List Expr} {kk:Nat} {p0:Pos} {l:Expr} {ta:TA} {p pos:Pos} (hg:Gl X "enumerate") (hm:X.mg "enumerate"=none) (ha:PA X [l] ta) (hs:starEach [l] X.env=[(false,eval l X.env)]:=by rfl) :
  PI X (.Tuple es kk p0) (.Call (.Name "enumerate" p) [l] [] pos) (iEnum X.K ta):=by
 intro pins s σ H R I h
 refine Call_ (ld_blt I hg hm boot_enumerate (PyProof.Rows.callWith_type1 (thn (ha pos pins s σ H _ I h) fun us s1 ⟨vs,H1,I1,r1,q1⟩=>?_) hs rfl))
 obtain ⟨a,e,⟨xs,hq⟩,q⟩:=q1
 subst e
 cases r1 with
 | cons r rr =>
  cases rr
  cases r
  obtain ⟨its,rv,p,hz⟩:=I1.list hq
  refine call_enumerate_list p.isList fun h' he hi hsz hk=>?_
  refine wpAny_pyIter_enum he ?_
  have I2:Inv X pins σ H1 { s1 with heap:=h' }:=I1.kept (t':=s1.toks) hk
  refine ⟨s1.heap.objs.size+1,[s1.heap.objs.size+1,s1.heap.objs.size],_,_,H1,rfl,I2,turn_enum a s1.heap.objs.size (s1.heap.objs.size+1) (Nat.succ_ne_self _),⟨⟨_,he⟩,hi⟩,fun b hb=>?_,q⟩
  have hb':s1.heap.objs.size≤b:=by
   rcases List.mem_cons.mp hb with rfl | hb
   ·exact Nat.le_succ _
   ·rw [List.mem_singleton.mp hb];exact Nat.le_refl _
  exact I1.fpOk hb' (I1.hok.fresh hb')
theorem for_enum {K:PySem.W.Frag} {a:Addr} {xs:List V} {g:TG} {tb:TS} {D:Ends} {σ:St} {H:Hp} (Pv:Nat→St→Hp→Prop) (h0:Pv 0 σ H) (hl:∀ i σ H,i≤xs.length→Pv i σ H→SqL K H a xs)
  (hs:∀ i x σ H t,xs[i]?=some x→Pv i σ H→H t=none→g (.ref t) σ (upd H t (.tup [.int (i:Int),x])) fun σ2 H2=>tb { D with nx:=Pv (i+1),ct:=Pv (i+1),bk:=D.nx } σ2 H2) (hd:∀ σ H,Pv xs.length σ H→D.nx σ H) :
  ∃ W:Nat→Nat→St→Hp→Prop,(∃ m,W 0 m σ H)∧∀ i m σ H,W i m σ H →
   ((Ite K a).stop i H∧D.nx σ H)∨((Ite K a).go i H∧∃ N:St→Hp→Prop,(∀ σ' H',N σ' H'→∃ m',m' < m∧W (i+1) m' σ' H')∧∀ x H',(Ite K a).yld i H x H'→g x σ H' fun σ2 H2=>tb { D with nx:=N,ct:=N,bk:=D.nx } σ2 H2):=by
 refine ⟨fun i m σ H=>m=xs.length - i∧i≤xs.length∧Pv i σ H,⟨xs.length,by simp,Nat.zero_le _,h0⟩,?_⟩
 rintro i m σ H ⟨rfl,hi,p⟩
 have q:=hl i σ H hi p
 by_cases hlt:i < xs.length
 ·refine .inr ⟨⟨xs,xs[i],q,by simp [hlt]⟩,Pv (i+1),fun σ' H' p'=>⟨xs.length - (i+1),by omega,rfl,hlt,p'⟩,fun x H' y=>?_⟩
  obtain ⟨t,v,rfl,ht,rfl,y⟩:=y
  exact hs i v σ H t (y xs q) p ht
 ·have e:i=xs.length:=by omega
  subst e
  exact .inl ⟨⟨xs,q,Nat.le_refl _⟩,hd σ H p⟩
end
def relS (scope sc0:Scope):Scope:={ scope with names:=scope.names.map fun (n,k)=>if (k == .free && sc0.kind == .function && sc0.names.lookup n == some .cell) then (n,.cell) else (n,k) }
def blk (X:Cx) (N':List Str) (scope:Scope) (cl:List (Str×Addr)) (C:Addr) (s:Shared) (H:Hp) (ex:List Addr) (pins:List (Addr×Obj)):Cx :=
 { X with N:=N',s₀:=s,H₀:=H,env:=compEnvC scope cl C X.env,outer:=X.stack,ex:=ex,fn:=fun _=>false,pn:=X.pn++pins,xe:=fun _ _=>False }
def capOk (N:List Str) (sc:Scope) (p:Str×Option Nat):Bool :=
 match p.2 with
 | none=>true
 | some j=>N[j]? == some p.1 && sc.names.lookup p.1 == some NameKind.free
structure BlkScope (N:List Str) (sc0 sc:Scope) (N':List Str) (caps:List (Option Nat)):Prop where
 kind:sc.kind=.function
 names:∀ x∈sc.names,x.2=.local→sc.names.lookup x.1=some .local
 nocell:∀ x∈sc.names,x.2≠.cell
 frees:∀ x∈sc.names,x.2=.free→sc0.names.lookup x.1=some .cell∨sc0.names.lookup x.1=some .free
 len:caps.length=N'.length
 cap:((N'.zip caps).all (capOk N sc))=true
 nd:N'.Nodup
def capσ (caps:List (Option Nat)) (σ:St):St:=caps.map fun o=>o.bind fun j=>σ.getD j none
def Wk (σ' σ:St):Prop:=σ'.length=σ.length∧∀ (i:Nat) v,σ'[i]?=some (some v)→σ[i]?=some (some v)
theorem Wk.set {σ:St} {i:Nat} {v:V} (h:σ[i]?=some none):Wk σ (σ.set i (some v)):=by
 refine ⟨by simp,fun j w e=>?_⟩
 by_cases hj:i=j
 ·subst hj;rw [h] at e;cases e
 ·rw [List.getElem?_set_ne hj];exact e
theorem lookup_relS {names:List (Str×NameKind)} {f:Str×NameKind→Str×NameKind} (hf:∀ x,(f x).1=x.1) {x:Str} {k:NameKind} (h:(names.map f).lookup x=some k):∃ y∈names,y.1=x∧(f y).2=k:=by
 induction names with
 | nil=>simp at h
 | cons y r ih =>
  rw [List.map_cons] at h
  have hl:List.lookup x (f y :: r.map f)=match x == (f y).1 with | true=>some (f y).2 | false=>List.lookup x (r.map f):=by
   cases f y with
   | mk a b =>
    simp only [List.lookup_cons]
    cases x == a <;> rfl
  rw [hl] at h
  cases hb:x == (f y).1 with
  | true =>
   rw [hb] at h
   cases h
   exact ⟨y,List.mem_cons_self,by rw [← hf y];exact (beq_iff_eq.mp hb).symm,rfl⟩
  | false =>
   rw [hb] at h
   obtain ⟨z,hz,e1,e2⟩:=ih h
   exact ⟨z,List.mem_cons_of_mem _ hz,e1,e2⟩
section
variable {X:Cx} {pins:List (Addr×Obj)} {σ:St} {H:Hp} {s:Shared} {scope:Scope} {cl:List (Str×Addr)} {C:Addr} {N':List Str} {ex:List Addr} {caps:List (Option Nat)}
theorem blk_ok (I:Inv X pins σ H s) (S:BlkScope X.N X.env.scope scope N' caps) (hcl1:∀ x c,cl.lookup x=some c→X.env.cells.lookup x=some c) (hcl2:∀ x∈scope.names,x.2=.free→∃ c,cl.lookup x.1=some c)
  (hC:s.heap.objs.size≤C) (hf:∀ b∈ex,FpOk X pins H b) (hex:∀ b∈ex,b < s.heap.objs.size):(blk X N' scope cl C s H ex pins).Ok where
 mod:=I.ok.mod
 kind:=S.kind
 glob:=I.ok.glob
 blt:=I.ok.blt
 above:=hC
 inj:=fun x y c hx hy=>I.ok.inj x y c (hcl1 x c hx) (hcl1 y c hy)
 has:=fun x hx=>by
  have hx':(relS scope X.env.scope).names.lookup x=some .cell∨(relS scope X.env.scope).names.lookup x=some .free:=hx
  have fin:∀ k,(k=NameKind.cell∨k=NameKind.free)→(relS scope X.env.scope).names.lookup x=some k→∃ c,cl.lookup x=some c:=fun k hk hl=>by
   obtain ⟨y,hy,e1,e2⟩:=lookup_relS (fun z=>by obtain ⟨n,k⟩:=z;dsimp only;split <;> rfl) hl
   obtain ⟨n,k0⟩:=y
   have e1:n=x:=e1
   subst e1
   have hfree:k0=.free:=by
    dsimp only at e2
    split at e2
    ·rename_i hcond
     simp only [Bool.and_eq_true,beq_iff_eq] at hcond
     exact hcond.1.1
    ·have e2:k0=k:=e2
     rcases hk with rfl | rfl
     ·exact absurd e2 (S.nocell _ hy)
     ·exact e2
   exact hcl2 _ hy hfree
  rcases hx' with h | h
  ·exact fin _ (.inl rfl) h
  ·exact fin _ (.inr rfl) h
 cab:=fun _ _ h=>by cases h
 hd:=I.ok.hd
 frames:=I.ok.frames
 stk:=.inl rfl
 exf:=fun b hb=>⟨Nat.ne_of_lt (Nat.lt_of_lt_of_le (hex b hb) hC),fun x c hc=>(hf b hb).2.2.2.2.1 x c (hcl1 x c hc)⟩
 bs:=I.bs
 bsz:=Nat.le_trans I.ok.bsz I.sz
 noex:=fun b o e hb=>by
  rcases (hf b hb).2.2.2.1 with z | z
  ·exact I.ok.noex b o e z
  ·exact absurd (Nat.lt_of_lt_of_le (Heap.lt_size (I.ok.bs b o e).1) z) (Nat.lt_irrefl _)
 exfs:=fun b hb hm=>by
  rcases List.mem_cons.mp (I.stkSub b hm) with z | z
  ·exact (hf b hb).2.1 z
  ·exact (hf b hb).2.2.1 z
 funs:=I.stack
 frf:=I.stkFree
theorem capσ_get {i:Nat} {v:V} (h:(capσ caps σ)[i]?=some (some v)):∃ j,caps[i]?=some (some j)∧σ[j]?=some (some v):=by
 unfold capσ at h
 rw [List.getElem?_map] at h
 cases hc:caps[i]? with
 | none=>rw [hc] at h;simp at h
 | some o =>
  rw [hc] at h
  cases o with
  | none=>simp at h
  | some j =>
   refine ⟨j,rfl,?_⟩
   have h:σ.getD j none=some v:=by simpa using h
   rw [List.getD_eq_getElem?_getD] at h
   cases hj:σ[j]? with
   | none=>rw [hj] at h;simp at h
   | some w=>rw [hj] at h;simp at h;rw [h]
theorem blk_inv {acc n t':Nat} {h₁:Heap} {m:Str→Option Value} (I:Inv X pins σ H s) (S:BlkScope X.N X.env.scope scope N' caps) (hcl1:∀ x c,cl.lookup x=some c→X.env.cells.lookup x=some c) (hcl2:∀ x∈scope.names,x.2=.free→∃ c,cl.lookup x.1=some c)
  (hC:s.heap.objs.size≤C) (hf:∀ b∈ex,FpOk X pins H b) (hex:∀ b∈ex,b < s.heap.objs.size) (hns:h₁.Ns C m) (old:∀ b o,s.heap.get? b=some o→h₁.get? b=some o)
  (hacc:h₁.get? acc=some { cls:=.type "list",data:=.seq #[] n }) (hge:s.heap.objs.size≤acc) (hne:acc≠C) :
  Inv (blk X N' scope cl C s H ex pins) [] (capσ caps σ) (upd H acc (.lst [])) { s with heap:=h₁,toks:=t' } where
 ok:=blk_ok I S hcl1 hcl2 hC hf hex
 os:=rfl
 bare:=I.bare
 base:=Un.laid old hge (I.hok.fresh hge)
 loc:=⟨m,hns,fun i x v e1 e2 e3=>by
  obtain ⟨j,hj,hv⟩:=capσ_get e2
  have hz:(x,some j)∈N'.zip caps:=by
   have:(N'.zip caps)[i]?=some (x,some j):=by rw [List.getElem?_zip_eq_some];exact ⟨e1,hj⟩
   exact List.mem_of_getElem? this
  have hk:=List.all_eq_true.mp S.cap _ hz
  simp only [capOk,Bool.and_eq_true,beq_iff_eq] at hk
  obtain ⟨hN,hfr⟩:=hk
  have hmem:(x,NameKind.free)∈scope.names:=by
   have e:∀ {l:List (Str×NameKind)},l.lookup x=some .free→(x,NameKind.free)∈l:=fun {l}=>mem_of_lookup
   exact e hfr
  have h0:=S.frees _ hmem rfl
  obtain ⟨m0,hn0,hl⟩:=I.loc
  obtain ⟨u,r,l⟩:=hl j x v hN hv (by
   rcases h0 with h0 | h0
   ·exact .inr (.inl h0)
   ·exact .inr (.inr h0))
  refine ⟨u,r,?_⟩
  have hcase:∃ c,X.env.cells.lookup x=some c∧s.heap.IsCell c (some u):=by
   rcases l with ⟨hk,_⟩ | ⟨_,c,hc,hcell⟩
   ·have hk':X.env.scope.names.lookup x=some .local:=hk
    rcases h0 with h0 | h0 <;> (rw [h0] at hk';cases hk')
   ·exact ⟨c,hc,hcell⟩
  obtain ⟨c,hc,hcell⟩:=hcase
  obtain ⟨c',hc'⟩:=hcl2 _ hmem rfl
  have ec:=hcl1 x c' hc'
  rw [hc] at ec
  cases ec
  refine .inr ⟨?_,c,hc',hcell.keeps old⟩
  have e3':Vis (relS scope X.env.scope) x:=e3
  rcases e3' with h | h | h
  ·exfalso
   obtain ⟨y,hy,q1,q2⟩:=lookup_relS (fun z=>by obtain ⟨n,k⟩:=z;dsimp only;split <;> rfl) h
   obtain ⟨nn,k0⟩:=y
   have q1:nn=x:=q1
   subst q1
   dsimp only at q2
   split at q2
   ·cases q2
   ·have q2:k0=.local:=q2
    subst q2
    have:=S.names _ hy rfl
    have this:scope.names.lookup nn=some .local:=this
    rw [hfr] at this;cases this
  ·exact .inl h
  ·exact .inr h⟩
 cell:=fun x c e=>let ⟨v,z⟩:=I.cell x c (hcl1 x c e);⟨v,z.keeps old⟩
 free:=by
  show upd H acc (.lst []) C=none
  rw [upd_ne (Ne.symm hne)];exact I.hok.fresh hC
 freeC:=fun x c e=>by
  obtain ⟨v,z⟩:=I.cell x c (hcl1 x c e)
  have hl:c≠acc:=Nat.ne_of_lt (Nat.lt_of_lt_of_le z.lt hge)
  rw [upd_ne hl];exact I.freeC x c (hcl1 x c e)
 pin:=fun p hp=>by
  have hp':p∈X.pn++pins:=by
   have:p∈(X.pn++pins)++[]:=hp
   simpa using this
  obtain ⟨e,n,ne,nf,d⟩:=I.pin p hp'
  have hlt:=Heap.lt_size e
  refine ⟨old _ _ e,?_,Nat.ne_of_lt (Nat.lt_of_lt_of_le hlt hC),fun z=>?_,d⟩
  ·rw [upd_ne (Nat.ne_of_lt (Nat.lt_of_lt_of_le hlt hge))];exact n
  ·rcases List.mem_cons.mp (I.stkSub _ z) with z | z
   ·exact ne z
   ·exact nf z
 hok:=I.hok.laid old hge ⟨Nat.zero_le _,[],n,.nil,hacc⟩
 len:=by
  show (capσ caps σ).length=N'.length
  unfold capσ;rw [List.length_map];exact S.len
theorem blk_back {H':Hp} {s':Shared} {σ':St} {pins':List (Addr×Obj)} (I:Inv X pins σ H s) (J:Inv (blk X N' scope cl C s H ex pins) pins' σ' H' s') (hf:∀ b∈ex,FpOk X pins H b):Inv X pins σ H' s' :=
 I.call' (ch:=ex) J.os J.base J.hok J.bare fun b hb=>by
  obtain ⟨_,f1,_,f3,f4,f5⟩:=hf b hb
  exact ⟨f3,f1,f4,f5⟩
theorem Inv.letC {H':Hp} {s':Shared} {h'':Heap} {σ':St} (I:Inv X pins σ H s) (hC:s.heap.objs.size≤C) (J:Inv X pins σ' H' s') (hn:H' C=none) (hs:Heap.SameBut C s'.heap h''):Inv X pins σ' H' { s' with heap:=h'' }:=by
 refine J.turned (it:=C) (t':=s'.toks) (fun b o hb e=>(hs.2 b hb).trans e) hn (Nat.ne_of_gt (Nat.lt_of_lt_of_le I.lt hC)) (.inr (Nat.le_trans I.sz hC)) (fun x c e=>?_) fun p hp=>?_
 ·obtain ⟨v,z⟩:=I.cell x c e
  exact Nat.ne_of_lt (Nat.lt_of_lt_of_le z.lt hC)
 ·obtain ⟨e,_⟩:=I.pin p hp
  exact Nat.ne_of_lt (Nat.lt_of_lt_of_le (Heap.lt_size e) hC)
end
def tComp (wi:TI) (g:TG) (te:TE) (caps:List (Option Nat)):TE:=fun σ H Q=>wi σ H fun J H1=>∀ acc,H1 acc=none→∃ W:Nat→Nat→List V→Hp→Prop,(∃ m,W 0 m [] (upd H1 acc (.lst [])))∧∀ i m ys H,W i m ys H →
 (J.stop i H∧Q (.ref acc) H)∨(J.go i H∧∃ N:List V→Hp→Prop,(∀ ys' H',N ys' H'→∃ m',m' < m∧W (i+1) m' ys' H')∧∀ x H',J.yld i H x H'→g x (capσ caps σ) H' fun σ2 H2=>Wk (capσ caps σ) σ2∧te σ2 H2 fun y H3=>H3 acc=some (.lst ys)∧ys.length < sizeLine∧N (ys++[y]) (upd H3 acc (.lst (ys++[y]))))
section
variable {X:Cx} {scope:Scope} {N':List Str} {caps:List (Option Nat)} {elt iter tg:Expr} {pos:Pos} {wi:TI} {g:TG} {te:TE}
def CompR (caps:List (Option Nat)) (g:TG) (te:TE) (σ:St) (Q:VK) (J:It) (H1:Hp):Prop:=∀ acc,H1 acc=none→∃ W:Nat→Nat→List V→Hp→Prop,(∃ m,W 0 m [] (upd H1 acc (.lst [])))∧∀ i m ys H,W i m ys H →
 (J.stop i H∧Q (.ref acc) H)∨(J.go i H∧∃ N:List V→Hp→Prop,(∀ ys' H',N ys' H'→∃ m',m' < m∧W (i+1) m' ys' H')∧∀ x H',J.yld i H x H'→g x (capσ caps σ) H' fun σ2 H2=>Wk (capσ caps σ) σ2∧te σ2 H2 fun y H3=>H3 acc=some (.lst ys)∧ys.length < sizeLine∧N (ys++[y]) (upd H3 acc (.lst (ys++[y]))))
theorem comp_core {pins:List (Addr×Obj)} {s:Shared} {σ:St} {H:Hp} {cl:List (Str×Addr)} {Q:VK} {E:Value→Shared→Prop} {RR:Value→Addr→Result→Shared→Prop} {it:Addr} {fp:List Addr} {tn:Nat→Heap→Prop} {J:It} (hc:X.calm=true) (S:BlkScope X.N X.env.scope scope N' caps)
  (hg:∀ cl C s H ex pins,PG (blk X N' scope cl C s H ex pins) tg g) (he:∀ cl C s H ex pins,PE (blk X N' scope cl C s H ex pins) elt te)
  (hcl1:∀ x c,cl.lookup x=some c→X.env.cells.lookup x=some c) (hcl2:∀ x∈scope.names,x.2=.free→∃ c,cl.lookup x.1=some c)
  (I:Inv X pins σ H s) (T:Turn X.prog X.w X.K tg J fp it tn) (st:tn 0 s.heap) (f2:∀ b∈fp,FpOk X pins H b) (R:CompR caps g te σ Q J H)
  (hRR:∀ acc C H' s' m,s.heap.objs.size≤C→s'.heap.Ns C m→Inv X pins σ H' s'→H' C=none→Q (.ref acc) H'→RR (.ref acc) C (.ok .next) s') :
  wpAny (model X.prog X.w) X.A (newList []) (fun acc s₃=>wpAny (model X.prog X.w) X.A (newFunctionEnv scope X.env.globals cl [] X.env.qual none .none (some X.env)) (fun cenv s₄ =>
   codeAny (model X.prog X.w) X.A (.compStart (.ListComp elt [⟨tg,iter,[],0⟩] scope pos) 0 (.ref it) acc { cenv with scope:=relabel scope X.env }) (RR acc cenv.locals) s₄) E s₃) E s:=by
 refine wpAny_newObj_type (wpAny_newFunctionEnv S.nocell (by intro y hy;simp at hy) (fun h₁ hns₁ hsb₁=>?_) S.kind)
 dsimp only at hns₁ hsb₁ ⊢
 generalize hP2:s.heap.push { cls:=.type "list",dict:=none,data:=.seq ([]:List Value).toArray }=P2 at hns₁ hsb₁ ⊢
 have hC:P2.objs.size=s.heap.objs.size+1:=by rw [← hP2,Heap.size_push]
 have hDC:s.heap.objs.size≠P2.objs.size:=by rw [hC];exact Nat.ne_of_lt (Nat.lt_succ_self _)
 have hCle:s.heap.objs.size≤P2.objs.size:=by rw [hC];exact Nat.le_succ _
 have old:∀ b o,s.heap.get? b=some o→h₁.get? b=some o:=fun b o e=>hsb₁.extBut b o (by rw [hC];exact Nat.ne_of_lt (Nat.lt_succ_of_lt (Heap.lt_size e))) (Heap.get?_push_of_some _ (hP2 ▸ Heap.get?_push_of_some _ e))
 have hacc:h₁.get? s.heap.objs.size=some { cls:=.type "list",data:=.seq #[] }:=hsb₁.extBut _ _ hDC (Heap.get?_push_of_some _ (hP2 ▸ Heap.get?_push_size _ rfl))
 have hex:∀ b∈fp,b < s.heap.objs.size:=fun b hb=>by obtain ⟨o,e,_⟩:=T.obj 0 _ st b hb;exact Heap.lt_size e
 obtain ⟨W,⟨m0,w0⟩,turn⟩:=R s.heap.objs.size (I.hok.fresh (Nat.le_refl _))
 have I3:∀ t',Inv (blk X N' scope cl P2.objs.size s H fp pins) [] (capσ caps σ) (upd H s.heap.objs.size (.lst [])) { s with heap:=h₁,toks:=t' }:=fun t'=>blk_inv (t':=t') I S hcl1 hcl2 hCle f2 hex hns₁ old hacc (Nat.le_refl _) hDC
 have stat:∀ {H':Hp},(∀ b∈fp,H' b=none)→∀ b∈fp,FpOk (blk X N' scope cl P2.objs.size s H fp pins) [] H' b:=fun hn b hb=>by
  obtain ⟨_,q1,q2,q3,q4,q5⟩:=f2 b hb
  refine ⟨hn b hb,Nat.ne_of_lt (Nat.lt_of_lt_of_le (hex b hb) hCle),fun z=>?_,.inl hb,fun x c e=>q4 x c (hcl1 x c e),fun p hp=>q5 p ?_⟩
  ·rcases List.mem_cons.mp (I.stkSub b z) with z | z
   ·exact q1 z
   ·exact q2 z
  ·have:p∈(X.pn++pins)++[]:=hp
   simpa using this
 have loop:∀ s₃:Shared,s₃={ s with heap:=h₁,toks:=s.toks+([]:List (Str×Value)).length } →
   codeAny (model X.prog X.w) X.A (.compLoop (.ListComp elt [⟨tg,iter,[],0⟩] scope pos) 0 (.ref it) (.ref s.heap.objs.size) (compEnvC scope cl P2.objs.size X.env)) (RR (.ref s.heap.objs.size) P2.objs.size) s₃:=by
  rintro s₃ rfl
  refine codeAny_compLoop_gen (fun n s'=>∃ i ys H',Inv (blk X N' scope cl P2.objs.size s H fp pins) [] (capσ caps σ) H' s'∧tn i s'.heap∧(∀ b∈fp,H' b=none)∧W i n ys H') ?_ m0
   ⟨0,[],_,I3 _,T.keep 0 _ _ st (fun b _ o e=>old b o e),fun b hb=>by rw [upd_ne (Nat.ne_of_lt (hex b hb))];exact (f2 b hb).1,w0⟩
  rintro n s4 ⟨i,ys,H4,I4,st4,fr4,w4⟩
  rcases turn i n ys H4 w4 with ⟨stop,q⟩ | ⟨go,N,hN,step⟩
  ·refine thn (T.done (blk X N' scope cl P2.objs.size s H fp pins) rfl rfl rfl hc i [] s4 _ H4 _ I4 (stat fr4) st4 stop) fun r s5 ⟨hr,I5⟩=>?_
   subst hr
   obtain ⟨m,hm,_⟩:=id I5.loc
   exact hRR _ _ H4 s5 m hCle hm (blk_back I I5 f2) I5.free q
  ·refine thn (T.item (blk X N' scope cl P2.objs.size s H fp pins) rfl rfl rfl hc i [] s4 _ H4 _ I4 (stat fr4) st4 go) fun r s5 ⟨u,hr,h5⟩=>?_
   subst hr
   refine thn h5 fun _ s6 ⟨x,H6,I6,r6,y6,st6,fr6⟩=>?_
   have I6':=I6.pinned (stat fr6) (T.obj _ _ st6)
   refine thn (hg cl _ s H fp pins _ s6 _ H6 x u _ I6' r6 (step x H6 y6)) fun _ s7 ⟨σ7,H7,I7,wk7,q7⟩=>?_
   refine thn (he cl _ s H fp pins _ s7 σ7 H7 _ I7 q7) fun yv s8 ⟨y,H8,I8,r8,ha8,hsz8,w8⟩=>?_
   refine thn (mt_append (X:=blk X N' scope cl P2.objs.size s H fp pins) _ s8 σ7 H8 (.ref s.heap.objs.size) [y] (.ref s.heap.objs.size) [yv] (fun _ H9=>H9=upd H8 s.heap.objs.size (.lst (ys++[y]))) I8 rfl (.cons r8 .nil) ⟨_,ys,y,rfl,rfl,ha8,hsz8,rfl⟩) fun _ s9 ⟨_,H9,I9,_,e9⟩=>?_
   subst e9
   obtain ⟨m',hm',w8⟩:=hN _ _ w8
   refine ⟨m',hm',i+1,ys++[y],_,I9.unpinned.weak wk7.1 wk7.2,T.keep _ _ _ st6 fun b hb o e=>(I9.pin (b,o) (List.mem_append_right _ (List.mem_append_right _ (mem_pinsAt hb e)))).1,fun b hb=>?_,w8⟩
   obtain ⟨o,e,d⟩:=T.obj _ _ st6 b hb
   exact (I9.pin (b,o) (List.mem_append_right _ (List.mem_append_right _ (mem_pinsAt hb e)))).2.1
 exact codeAny_compStart_list (loop _ rfl) (T.self _ 0 _ _ _ (T.keep 0 _ _ st (fun b _ o e=>old b o e)) (loop _ rfl))
theorem clos_of {pins:List (Addr×Obj)} {s:Shared} {σ:St} {H:Hp} (I:Inv X pins σ H s) (S:BlkScope X.N X.env.scope scope N' caps) :
  ∃ cl,closureFor scope X.env=pure cl∧(∀ x c,cl.lookup x=some c→X.env.cells.lookup x=some c)∧∀ x∈scope.names,x.2=.free→∃ c,cl.lookup x.1=some c :=
 closure_ok fun x hx hf=>I.ok.has x.1 (S.frees x hx hf)
theorem pe_comp {N:List Str} {sc0:Scope} (S:BlkScope N sc0 scope N' caps) (hc:X.calm=true) (hi:PI X tg iter wi)
  (hg:∀ cl C s H ex pins,PG (blk X N' scope cl C s H ex pins) tg g) (he:∀ cl C s H ex pins,PE (blk X N' scope cl C s H ex pins) elt te)
  (hs:∀ x,foldedSetIterable iter X.env x=pure x:=by intro _;rfl) (hN0:X.N=N:=by rfl) (h00:X.env.scope=sc0:=by rfl):PE X (.ListComp elt [⟨tg,iter,[],0⟩] scope pos) (tComp wi g te caps):=by
 subst hN0 h00
 intro pins s σ H Q I h
 obtain ⟨cl,hclos,hcl1,hcl2⟩:=clos_of I S
 rw [eval_ListComp]
 refine wpAny_comprehension_free (use:=none) rfl hs hclos S.kind S.names (thn (hi pins s σ H _ I h) fun xv s1 h1=>thn h1 fun itv s2 h2=>?_)
 obtain ⟨it,fp,tn,J,H2,e,I2,T,st2,f2,R⟩:=h2
 subst e
 refine comp_core (RR:=fun acc C=>compPost (model X.prog X.w) X.A X.xe none (EP X pins σ Q) acc C) hc S hg he hcl1 hcl2 I2 T st2 f2 R ?_
 intro acc C H' s' m hC hm J' hn q
 exact ⟨m,hm,fun h' hs'=>⟨.ref _,H',I2.letC hC J' hn hs',rfl,q⟩⟩
theorem ps_setC {i:Nat} {x:Str} {pos' spos:Pos} {N:List Str} {sc0:Scope} (S:BlkScope N sc0 scope N' caps) (hc:X.calm=true) (hN:X.N.Nodup) (hi':X.N[i]?=some x) (hx:Loc X.env.scope x) (hi:PI X tg iter wi)
  (hg:∀ cl C s H ex pins,PG (blk X N' scope cl C s H ex pins) tg g) (he:∀ cl C s H ex pins,PE (blk X N' scope cl C s H ex pins) elt te)
  (hsw:swapsWith (.ListComp elt [⟨tg,iter,[],0⟩] scope pos) (some (.Name x pos')) spos.line X.env=pure true:=by rfl)
  (hf:X.fn x=true∨X.env.scope.names.lookup x=some .local:=by first | exact .inl rfl | exact .inr rfl | assumption)
  (hs:∀ x,foldedSetIterable iter X.env x=pure x:=by intro _;rfl) (hN0:X.N=N:=by rfl) (h00:X.env.scope=sc0:=by rfl):PS X (.Assign [.Name x pos'] (.ListComp elt [⟨tg,iter,[],0⟩] scope pos) spos) (tAsg (tComp wi g te caps) (gName i)):=by
 subst hN0 h00
 intro pins s σ H D I h
 obtain ⟨cl,hclos,hcl1,hcl2⟩:=clos_of I S
 rw [exec_Assign_Name_used _ _ _ _ hsw]
 refine wpAny_bind (wpAny_standAt (wpAny_bind ?_))
 show wpAny _ X.A (do let _ ← comprehension (.ListComp elt [⟨tg,iter,[],0⟩] scope pos) scope X.env _ (newList []) false (eval iter X.env) (some (assign (.Name x pos') X.env))) _ _ s
 refine wpAny_bind (wpAny_mono (wpAny_comprehension_free (use:=some (assign (.Name x pos') X.env)) (Q:=fun _ s'=>SP X pins D .next s') rfl hs hclos S.kind S.names
  (thn (hi pins s σ H _ I h) fun xv s1 h1=>thn h1 fun itv s2 h2=>?_)) (fun _ s' hq=>wpAny_pure (wpAny_pure hq)) fun _ _ e=>e)
 obtain ⟨it,fp,tn,J,H2,e,I2,T,st2,f2,R⟩:=h2
 subst e
 refine comp_core (Q:=fun x H1=>gName i x σ H1 D.nx) (RR:=fun acc C=>compPost (model X.prog X.w) X.A X.xe (some (assign (.Name x pos') X.env)) (fun _ s'=>SP X pins D .next s') acc C) hc S hg he hcl1 hcl2 I2 T st2 f2 R ?_
 intro acc C H' s' m hC hm J' hn q
 obtain ⟨o,es,ep,ho,hd,hr⟩:=id hm
 have hCL:C≠X.env.locals:=Nat.ne_of_gt (Nat.lt_of_lt_of_le I2.lt hC)
 have JP:Inv X (pins++[(C,o)]) σ H' s':=J'.pins_of fun p hp=>by
  rcases List.mem_append.mp hp with hp | hp
  ·exact J'.pin p (List.mem_append_right _ hp)
  ·have e:=List.mem_singleton.mp hp
   subst e
   exact ⟨ho,hn,hCL,I2.nofs hC,fun v z=>by have z':o.data=.cell v:=z;rw [hd] at z';cases z'⟩
 show wpAny _ X.A (assign (.Name x pos') X.env (.ref acc)) _ _ s'
 refine thn (pg_name hN hi' hx hf (pins++[(C,o)]) s' σ H' (.ref acc) (.ref acc) D.nx JP rfl q) fun _ s'' ⟨σ'',H'',J'',q''⟩=>?_
 have hp:=J''.pin (C,o) (List.mem_append_right _ (List.mem_append_right _ (List.mem_singleton.mpr rfl)))
 exact ⟨m,⟨o,es,ep,hp.1,hd,hr⟩,fun h' hs'=>⟨σ'',H'',I2.letC hC J''.unpinned hp.2.1 hs',q''⟩⟩
end
theorem comp_list {K:PySem.W.Frag} {a:Addr} {xs:List V} {g:TG} {te:TE} {caps:List (Option Nat)} {σ:St} {H:Hp} {Q:VK} (Pv:Addr→Nat→List V→Hp→Prop) (h0:∀ acc,H acc=none→Pv acc 0 [] (upd H acc (.lst [])))
  (hl:∀ acc i ys H',H acc=none→i≤xs.length→Pv acc i ys H'→SqL K H' a xs)
  (hs:∀ acc i x ys H',H acc=none→xs[i]?=some x→Pv acc i ys H'→g x (capσ caps σ) H' fun σ2 H2=>Wk (capσ caps σ) σ2∧te σ2 H2 fun y H3=>H3 acc=some (.lst ys)∧ys.length < sizeLine∧Pv acc (i+1) (ys++[y]) (upd H3 acc (.lst (ys++[y]))))
  (hd:∀ acc ys H',H acc=none→Pv acc xs.length ys H'→Q (.ref acc) H'):CompR caps g te σ Q (Itl K a) H:=by
 intro acc hacc
 refine ⟨fun i m ys H=>m=xs.length - i∧i≤xs.length∧Pv acc i ys H,⟨xs.length,by simp,Nat.zero_le _,h0 acc hacc⟩,?_⟩
 rintro i m ys H' ⟨rfl,hi,p⟩
 have q:=hl acc i ys H' hacc hi p
 by_cases hlt:i < xs.length
 ·refine .inr ⟨⟨xs,xs[i],q,by simp [hlt]⟩,Pv acc (i+1),fun ys' H' p'=>⟨xs.length - (i+1),by omega,rfl,hlt,p'⟩,fun x H'' y=>?_⟩
  obtain ⟨e,y⟩:=y
  subst e
  exact hs acc i x ys _ hacc (y xs q) p
 ·have e:i=xs.length:=by omega
  subst e
  exact .inl ⟨⟨xs,q,Nat.le_refl _⟩,hd acc ys H' hacc p⟩
theorem comp_range {lo:Int} {n:Nat} {g:TG} {te:TE} {caps:List (Option Nat)} {σ:St} {H:Hp} {Q:VK} (Pv:Addr→Nat→List V→Hp→Prop) (h0:∀ acc,H acc=none→Pv acc 0 [] (upd H acc (.lst [])))
  (hs:∀ acc i ys H',H acc=none→i < n→Pv acc i ys H'→g (.int (lo+i)) (capσ caps σ) H' fun σ2 H2=>Wk (capσ caps σ) σ2∧te σ2 H2 fun y H3=>H3 acc=some (.lst ys)∧ys.length < sizeLine∧Pv acc (i+1) (ys++[y]) (upd H3 acc (.lst (ys++[y]))))
  (hd:∀ acc ys H',H acc=none→Pv acc n ys H'→Q (.ref acc) H'):CompR caps g te σ Q (Itr lo n) H:=by
 intro acc hacc
 refine ⟨fun i m ys H=>m=n - i∧i≤n∧Pv acc i ys H,⟨n,by simp,Nat.zero_le _,h0 acc hacc⟩,?_⟩
 rintro i m ys H' ⟨rfl,hi,p⟩
 by_cases hlt:i < n
 ·refine .inr ⟨hlt,Pv acc (i+1),fun ys' H' p'=>⟨n - (i+1),by omega,rfl,hlt,p'⟩,fun x H'' y=>?_⟩
  obtain ⟨e,y⟩:=y
  subst e y
  exact hs acc i ys _ hacc hlt p
 ·have e:i=n:=by omega
  subst e
  exact .inl ⟨Nat.le_refl _,hd acc ys H' hacc p⟩
def cvV:V→Option Value
 | .ty n=>some (.type n)
 | .ref a=>some (.ref a)
 | _=>none
mutual
inductive Dt (K:PySem.W.Frag) (H:Hp):V→PyData→Prop where
 | non:Dt K H .non .none
 | bl (b:Bool):Dt K H (.bl b) (.bool b)
 | int (i:Int):Dt K H (.int i) (.int i)
 | str (x:Str):Dt K H (.str x) (.str x)
 | lst {a:Addr} {xs:List V} {ds:List PyData}:SqL K H a xs→Dts K H xs ds→Dt K H (.ref a) (.list ds)
 | tup {a:Addr} {xs:List V} {ds:List PyData}:SqT K H a xs→Dts K H xs ds→Dt K H (.ref a) (.tuple ds)
inductive Dts (K:PySem.W.Frag) (H:Hp):List V→List PyData→Prop where
 | nil:Dts K H [] []
 | cons {x:V} {xs:List V} {d:PyData} {ds:List PyData}:Dt K H x d→Dts K H xs ds→Dts K H (x :: xs) (d :: ds)
end
section
variable {X:Cx} {pins:List (Addr×Obj)} {σ:St} {H:Hp} {s:Shared}
mutual
theorem Dt.reads (I:Inv X pins σ H s):∀ {x:V} {d:PyData} {u:Value},Dt X.K H x d→RelV x u→∃ as,Reads s.heap u d as
 | _,_,_,.non,r=>by cases r;exact ⟨_,.none⟩
 | _,_,_,.bl b,r=>by cases r;exact ⟨_,.bool b⟩
 | _,_,_,.int i,r=>by obtain ⟨t,rfl⟩:=r;exact ⟨_,.int i t⟩
 | _,_,_,.str x,r=>by obtain ⟨t,rfl⟩:=r;exact ⟨_,.str x t⟩
 | _,_,_,.lst h hs,r=>by
  cases r
  obtain ⟨its,rv,p,_⟩:=I.list h
  obtain ⟨as,q⟩:=Dts.reads I hs rv
  obtain ⟨o,ho,hc,n,hd⟩:=p.isList
  exact ⟨_,.list ho hc hd (by simpa using q)⟩
 | _,_,_,.tup h hs,r=>by
  cases r
  obtain ⟨its,rv,p,_⟩:=I.tuple h
  obtain ⟨as,q⟩:=Dts.reads I hs rv
  obtain ⟨o,ho,hc,n,hd⟩:=p
  exact ⟨_,.tuple ho hc hd (by simpa using q)⟩
theorem Dts.reads (I:Inv X pins σ H s):∀ {xs:List V} {ds:List PyData} {us:List Value},Dts X.K H xs ds→Vals xs us→∃ as,ReadsAll s.heap us ds as
 | _,_,_,.nil,r=>by cases r;exact ⟨_,.nil⟩
 | _,_,_,.cons h hs,r=>by
  cases r with
  | cons r rr =>
   obtain ⟨as,q⟩:=Dt.reads I h r
   obtain ⟨bs,q'⟩:=Dts.reads I hs rr
   exact ⟨_,.cons q q'⟩
end
end
section
variable {X:Cx}
theorem op_neD (hu:X.A.units+64 < cLine):OpR X (compareOp .NotEq) (fun x y H Q=>∃ d e,Dt X.K H x d∧Dt X.K H y e∧SeqAt.shaped d=true∧SeqAt.shaped e=true∧Q (.bl (!PyData.eqv d e)) H):=by
 intro pins s σ H x y v u Q I rx ry h
 obtain ⟨d,e,hd,he,sd,se,q⟩:=h
 obtain ⟨as,r1⟩:=hd.reads I rx
 obtain ⟨bs,r2⟩:=he.reads I ry
 exact ne_dataH r1 r2 sd se hu ⟨.bl _,H,I,rfl,q⟩
end
end L2
namespace L2
open PySem PySem.Spec PyProof.Rows
section
variable {t u:TS} {te ta tb tc:TE} {tt uu:TT} {tar:TA} {g:TG} {D:Ends} {σ:St} {H:Hp} {Q:VK} {QB:Bool→Hp→Prop} {QL:List V→Hp→Prop} {QS:St→Hp→Prop} {v x y:V} {i j:Int} {n:Nat} {K:PySem.W.Frag}
theorem r_seq (h:t { D with nx:=u D } σ H):tSeq t u D σ H:=h
theorem r_next (h:D.nx σ H):tNext D σ H:=h
theorem r_nx {f b c:St→Hp→Prop} {r:VK} (h:f σ H):Ends.nx ⟨f,r,b,c⟩ σ H:=h
theorem r_rt {f b c:St→Hp→Prop} {r:VK} (h:r v H):Ends.rt ⟨f,r,b,c⟩ v H:=h
theorem r_asg (h:te σ H fun x H1=>g x σ H1 D.nx):tAsg te g D σ H:=h
theorem r_gname (h:QS (σ.set n (some v)) H):gName n v σ H QS:=h
theorem r_drop (h:te σ H fun _ H1=>D.nx σ H1):tDrop te D σ H:=h
theorem r_ret (h:te σ H D.rt):tRet te D σ H:=h
theorem r_ifs (h:tt σ H fun b H1=>if b=true then t D σ H1 else u D σ H1):tIfS tt t u D σ H:=h
theorem r_var (e:σ[n]?=some (some v)) (h:Q v H):tVar n σ H Q:=⟨v,e,h⟩
theorem r_C (h:Q v H):tC v σ H Q:=h
theorem r_op {r:R2} (h:ta σ H fun x H1=>tb σ H1 fun y H2=>r x y H2 Q):tOp r ta tb σ H Q:=h
theorem r_un {r:V→Hp→VK→Prop} (h:ta σ H fun x H1=>r x H1 Q):tUn r ta σ H Q:=h
theorem r_test (h:te σ H fun x H'=>∃ k,x=.bl k∧QB k H'):tTest te σ H QB:=h
theorem r_tB (h:te σ H fun x H'=>∃ k,x=.bl k∧QB k H'):tB te σ H QB:=h
theorem r_bl {k:Bool} {Q:Bool→Prop} (h:Q k):∃ k',V.bl k=.bl k'∧Q k':=⟨k,rfl,h⟩
theorem r_and (h:tt σ H fun c H1=>if c=true then uu σ H1 QB else QB false H1):tAnd tt uu σ H QB:=h
theorem r_or (h:tt σ H fun c H1=>if c=true then QB true H1 else uu σ H1 QB):tOr tt uu σ H QB:=h
theorem r_not (h:tt σ H fun c H1=>QB (!c) H1):tNot tt σ H QB:=h
theorem r_orV (h:ta σ H fun x H1=>∃ c,x=.bl c∧if c=true then Q (.bl true) H1 else tb σ H1 Q):tOrV ta tb σ H Q:=h
theorem r_chain {r r':R2} (h:ta σ H fun x H1=>tb σ H1 fun y H2=>r x y H2 fun z H3=>∃ k,z=.bl k∧(if k=true then tc σ H3 fun w' H4=>r' y w' H4 Q else Q (.bl false) H3)):tChain r r' ta tb tc σ H Q:=h
theorem r_call {sp:Sp} {dvs:List V} {E:XK} (h:tar σ H fun vs H1=>sp (vs++dvs) H1 Q E):tCall sp dvs E tar σ H Q:=h
theorem r_cb {r:List V→Hp→VK→Prop} (h:tar σ H fun vs H1=>r vs H1 Q):tCB r tar σ H Q:=h
theorem r_cons (h:ta σ H fun x H1=>tar σ H1 fun xs H2=>QL (x :: xs) H2):tCons ta tar σ H QL:=h
theorem r_nil (h:QL [] H):tNil σ H QL:=h
theorem r_lst (h:tar σ H fun xs H1=>xs.length≤sizeLine∧∀ p,H1 p=none→Q (.ref p) (upd H1 p (.lst xs))):tLst tar σ H Q:=h
theorem r_tup (h:tar σ H fun xs H1=>xs.length≤sizeLine∧∀ p,H1 p=none→Q (.ref p) (upd H1 p (.tup xs))):tTup tar σ H Q:=h
theorem r_I0 {f:Int→Int→V} (h:Q (f i j) H):rI0 f (.int i) (.int j) H Q:=⟨i,j,rfl,rfl,h⟩
theorem r_I {C:Int→Int→Prop} {f:Int→Int→V} (hc:C i j) (h:Q (f i j) H):rI C f (.int i) (.int j) H Q:=⟨i,j,rfl,rfl,hc,h⟩
theorem r_U {f:Int→V} (h:Q (f i) H):rU f (.int i) H Q:=⟨i,rfl,h⟩
theorem r_eq (hs:scal x y=true) (h:Q (.bl (decide (x=y))) H):rEq x y H Q:=⟨hs,h⟩
theorem r_ne (hs:scal x y=true) (h:Q (.bl (!decide (x=y))) H):rNe x y H Q:=⟨hs,h⟩
theorem r_ixL {p:Addr} {xs:List V} (hs:SqL K H p xs) (ha:atI xs i=some v) (h:Q v H):rIxL K (.ref p) (.int i) H Q:=⟨p,xs,i,v,rfl,rfl,hs,ha,h⟩
theorem r_bm {T:String} {r:V→List V→Hp→VK→Prop} {to:TE} (h:to σ H fun x H1=>tyV K T x H1∧tar σ H1 fun xs H2=>r x xs H2 Q):tBM K T r to tar σ H Q:=h
theorem r_fld {a:Addr} {f:Str} (h:ta σ H fun x H1=>∃ a C dx fs v,x=.ref a∧H1 a=some (.ins C dx fs)∧Cls K C∧NoAttr K C f∧fs.lookup f=some v∧Q v H1):tFld K ta f σ H Q:=h
theorem r_ite {A B:Prop} {c:Bool} (h1:c=true→A) (h2:c=false→B):if c=true then A else B:=by
 cases c with
 | true=>exact h1 rfl
 | false=>exact h2 rfl
theorem r_iteP {A B:Prop} {c:Bool} (hc:c=true) (h1:A):if c=true then A else B:=by rw [if_pos hc];exact h1
theorem r_iteN {A B:Prop} {c:Bool} (hc:c=false) (h1:B):if c=true then A else B:=by rw [if_neg (by rw [hc];decide)];exact h1
theorem Same.upd_new {H:Hp} {p:Addr} {o:HO} (h:H p=none):Same H (upd H p o):=fun b u e=>by rw [upd_ne (ne_of_none e h)];exact e
theorem sqL_same {K:PySem.W.Frag} {H H':Hp} {a:Addr} {xs:List V} (e:Same H H') (h:SqL K H a xs):SqL K H' a xs:=e.seq h
theorem atI_get' {α:Type} {xs:List α} {i:Int} {v:α} (h0:0≤i) (h:xs[i.toNat]?=some v):atI xs i=some v:=by
 have:=atI_nat (xs:=xs) (j:=i.toNat) h
 rwa [Int.toNat_of_nonneg h0] at this
end
end L2
namespace L2
open PySem PySem.Spec PyProof.Rows
section
variable {wi:TI} {g:TG} {tb:TS} {te tl:TE} {ta:TA} {D:Ends} {σ:St} {H:Hp} {Q:VK} {R:It→Hp→Prop} {caps:List (Option Nat)} {K:PySem.W.Frag}
theorem r_for (h:wi σ H fun J H1=>∃ W:Nat→Nat→St→Hp→Prop,(∃ m,W 0 m σ H1)∧∀ i m σ H,W i m σ H →
  (J.stop i H∧D.nx σ H)∨(J.go i H∧∃ N:St→Hp→Prop,(∀ σ' H',N σ' H'→∃ m',m' < m∧W (i+1) m' σ' H')∧∀ x H',J.yld i H x H'→g x σ H' fun σ2 H2=>tb { D with nx:=N,ct:=N,bk:=D.nx } σ2 H2)):tFor wi g tb D σ H:=h
theorem r_rng1 (h:ta σ H fun vs H1=>∃ j:Int,vs=[.int j]∧-(2 ^ 62)≤j∧j < 2 ^ 62∧R (Itr 0 j.toNat) H1):iRng1 ta σ H R:=h
theorem r_rng2 (h:ta σ H fun vs H1=>∃ i j:Int,vs=[.int i,.int j]∧(-(2 ^ 62)≤i∧i < 2 ^ 62∧-(2 ^ 62)≤j∧j < 2 ^ 62)∧R (Itr i (j - i).toNat) H1):iRng2 ta σ H R:=h
theorem r_ilist (h:tl σ H fun x H1=>∃ a,x=.ref a∧(∃ xs,SqL K H1 a xs)∧R (Itl K a) H1):iList K tl σ H R:=h
theorem r_ienum (h:ta σ H fun vs H1=>∃ a,vs=[.ref a]∧(∃ xs,SqL K H1 a xs)∧R (Ite K a) H1):iEnum K ta σ H R:=h
theorem r_comp (h:wi σ H fun J H1=>CompR caps g te σ Q J H1):tComp wi g te caps σ H Q:=h
theorem r_meth {C:Addr} {m:Str} {sp:Sp} {dvs:List V} {E:XK} {to:TE} (h:to σ H fun x H1=>∃ a dx fs,x=.ref a∧H1 a=some (.ins C dx fs)∧fs.lookup m=none∧ta σ H1 fun vs H2=>sp (x :: (vs++dvs)) H2 Q E):tMeth C m sp dvs E to ta σ H Q:=h
theorem r_make {C:Addr} {sp:Sp} {dvs:List V} {E:XK} (h:ta σ H fun vs H1=>∀ x dx,H1 x=none→H1 dx=none→dx≠x →
 sp (.ref x :: (vs++dvs)) (upd (upd H1 dx (.own x)) x (.ins C dx [])) (fun v H2=>v=.non∧Q (.ref x) H2) E):tMake C sp dvs E ta σ H Q:=h
theorem r_sfld {tv to:TE} {f:Str} (h:tv σ H fun y H1=>to σ H1 fun x H2=>∃ a C dx fs,x=.ref a∧H2 a=some (.ins C dx fs)∧Cls K C∧NoAttr K C f∧fs.length < 1000 ∧
 D.nx σ (upd H2 a (.ins C dx (putF f y fs)))):sFld K to tv f D σ H:=h
end
end L2
namespace L2
open PySem PySem.Spec PyProof.Rows
section
variable {X:Cx} (K:PySem.W.Frag)
theorem call_len_seqK (hK:X.K=K:=by rfl):CallR X (.builtin "len") (fun xs H Q=>∃ p ys,xs=[.ref p]∧(SqL K H p ys∨SqT K H p ys)∧Q (.int ys.length) H):=by subst hK;exact call_len_seq
theorem call_list_ofK (hK:X.K=K:=by rfl):CallR X (.type "list") (fun xs H Q=>∃ p ys,xs=[.ref p]∧(SqL K H p ys∨SqT K H p ys)∧∀ l,H l=none→Q (.ref l) (upd H l (.lst ys))):=by subst hK;exact call_list_of
theorem call_tuple_ofK (hK:X.K=K:=by rfl):CallR X (.type "tuple") (fun xs H Q=>∃ p ys,xs=[.ref p]∧((SqL K H p ys∧∀ l,H l=none→Q (.ref l) (upd H l (.tup ys)))∨(SqT K H p ys∧Q (.ref p) H))):=by subst hK;exact call_tuple_of
theorem ix_listK (hK:X.K=K:=by rfl):IxR X (rIxL K):=by subst hK;exact ix_list
theorem ix_tupK (hK:X.K=K:=by rfl):IxR X (rIxT K):=by subst hK;exact ix_tup
theorem pe_fldK {e:Expr} {f:Str} {pos:Pos} {ta:TE} (he:PE X e ta) (hb:attributeBase e f X.env (eval e X.env)=eval e X.env) (hK:X.K=K:=by rfl):PE X (.Attribute e f pos) (tFld K ta f):=by subst hK;exact pe_fld he hb
theorem ps_fldK {o value:Expr} {f:Str} {pos pos':Pos} {ta tv:TE} (ha:PE X o ta) (hv:PE X value tv) (hs:swapsWith value (some (.Attribute o f pos')) pos.line X.env=pure false) (hK:X.K=K:=by rfl):PS X (.Assign [.Attribute o f pos'] value pos) (sFld K ta tv f):=by subst hK;exact ps_fld ha hv hs
theorem pe_bmK {o e:Expr} {es:List Expr} {to:TE} {t:TA} {name:Str} {apos cpos:Pos} {T id:String} {r:V→List V→Hp→VK→Prop} (pa:PlainAttrs T) (slot:Slot T name id) (hty:typeOf (.builtin id)=pure (.type "method_descriptor")) (hm:MtR X id r) (ho:PE X o to) (ha:PA X (e :: es) t)
  (hbase:attributeBase o name X.env (eval o X.env)=eval o X.env:=by rfl) (hfew:((backTo cpos (starEach (e :: es) X.env)).all (fun x=>!x.1) && (backToKw cpos (keywordEach [] X.env)).all (fun x=>x.1.isSome)
   && decide ((e :: es).length+([]:List Keyword).length+(if ([]:List Keyword).isEmpty then 0 else 1) < 30))=true:=by rfl)
  (hline:(apos.endLine == cpos.line)=true:=by rfl) (hs:starEach (e :: es) X.env=(false,eval e X.env) :: starEach es X.env:=by rfl) (hplain:(backTo cpos (starEach es X.env)).any (·.1)=false:=by rfl) (hK:X.K=K:=by rfl) :
  PE X (.Call (.Attribute o name apos) (e :: es) [] cpos) (tBM K T r to t):=by subst hK;exact pe_bm pa slot hty hm ho ha hbase hfew hline hs hplain
theorem pi_listK {tg l:Expr} {tl:TE} (hl:PE X l tl) (hK:X.K=K:=by rfl):PI X tg l (iList K tl):=by subst hK;exact pi_list hl
theorem pi_enumK {es:List Expr} {kk:Nat} {p0:Pos} {l:Expr} {ta:TA} {p pos:Pos} (hg:Gl X "enumerate") (hm:X.mg "enumerate"=none) (ha:PA X [l] ta) (hs:starEach [l] X.env=[(false,eval l X.env)]:=by rfl) (hK:X.K=K:=by rfl):PI X (.Tuple es kk p0) (.Call (.Name "enumerate" p) [l] [] pos) (iEnum K ta):=by subst hK;exact pi_enum hg hm ha hs
theorem pg_tupK {pos:Pos} {es:List Expr} {k:Nat} {t:TGs} {n:Nat} (hc:X.calm=true) (h:PGs X es t) (hn:(assignEach es X.env).length=n:=by rfl) (hst:(assignEach es X.env).findIdx? (·.1)=none:=by rfl) (hK:X.K=K:=by rfl):PG X (.Tuple es k pos) (gTup K n t):=by subst hK;exact pg_tup hc h hn hst
theorem op_neDK (hu:X.A.units+64 < cLine) (hK:X.K=K:=by rfl):OpR X (compareOp .NotEq) (fun x y H Q=>∃ d e,Dt K H x d∧Dt K H y e∧SeqAt.shaped d=true∧SeqAt.shaped e=true∧Q (.bl (!PyData.eqv d e)) H):=by subst hK;exact op_neD hu
end
end L2
namespace L2
open PySem PySem.Spec PyProof.Rows
def tJoin (t:TS):TS:=fun D σ H=>∃ P:St→Hp→Prop,t { D with nx:=P } σ H∧∀ σ' H',P σ' H'→D.nx σ' H'
theorem ps_join {X:Cx} {st:Stmt} {t:TS} (h:PS X st t):PS X st (tJoin t):=by
 intro pins s σ H D I hw
 obtain ⟨P,h1,h2⟩:=hw
 refine thn (h pins s σ H _ I h1) fun f s' q=>?_
 cases f with
 | next=>obtain ⟨σ',H',I',q⟩:=q;exact ⟨σ',H',I',h2 σ' H' q⟩
 | brk=>exact q
 | cont=>exact q
 | ret v=>exact q
theorem r_join {t:TS} {D:Ends} {σ:St} {H:Hp} (P:St→Hp→Prop) (h1:t { D with nx:=P } σ H) (h2:∀ σ' H',P σ' H'→D.nx σ' H'):tJoin t D σ H:=⟨P,h1,h2⟩
end L2
namespace My
open PySem L2
def cellv (ns:List Int) (k:Int):Int:=if k < ns.length then ns.getD k.toNat 0 else 0
def step (rss:List (List Int)) (q d:Int):Int:=(rss.getD q.toNat []).getD d.toNat 0
def walkI (rss:List (List Int)) (q:Int) (w:List Int):Int:=w.foldl (step rss) q
def trailI (rss:List (List Int)) (w:List Int):List Int:=(List.range (w.length+1)).map fun j=>walkI rss 0 (w.take j)
structure Ways (d:Int) (rss:List (List Int)):Prop where
 row:∀ row∈rss,(row.length:Int)=d∧∀ x∈row,0≤x∧x < rss.length
structure Valid (d:Int) (rss:List (List Int)) (ls:List Bool):Prop extends Ways d rss where
 d1:1≤d
 d6:d≤6
 r1:1≤rss.length
 r400:rss.length≤400
 ll:ls.length=rss.length
def WordOk (d:Int) (w:List Int):Prop:=∀ x∈w,0≤x∧x < d
theorem step_in {d:Int} {rss:List (List Int)} (W:Ways d rss) {q x:Int} (h0:0≤q) (h1:q < rss.length) (x0:0≤x) (x1:x < d) :
  ∃ row,rss[q.toNat]?=some row∧row[x.toNat]?=some (step rss q x)∧0≤step rss q x∧step rss q x < rss.length:=by
 have hq:q.toNat < rss.length:=by omega
 obtain ⟨hl,hr⟩:=W.row rss[q.toNat] (List.getElem_mem hq)
 have hx:x.toNat < rss[q.toNat].length:=by omega
 have e:step rss q x=rss[q.toNat][x.toNat]:=by
  unfold step
  have e1:rss.getD q.toNat []=rss[q.toNat]:=by rw [List.getD_eq_getElem?_getD,List.getElem?_eq_getElem hq,Option.getD_some]
  rw [e1,List.getD_eq_getElem?_getD,List.getElem?_eq_getElem hx,Option.getD_some]
 obtain ⟨a,b⟩:=hr _ (List.getElem_mem hx)
 exact ⟨rss[q.toNat],List.getElem?_eq_getElem hq,by rw [e];exact List.getElem?_eq_getElem hx,by rw [e];exact a,by rw [e];exact b⟩
theorem walkI_in {d:Int} {rss:List (List Int)} (W:Ways d rss):∀ {w:List Int} {q:Int},WordOk d w→0≤q→q < rss.length→0≤walkI rss q w∧walkI rss q w < rss.length
 | [],q,_,h0,h1=>⟨h0,h1⟩
 | x :: w,q,hw,h0,h1=>by
  obtain ⟨x0,x1⟩:=hw x List.mem_cons_self
  obtain ⟨_,_,_,a,b⟩:=step_in W h0 h1 x0 x1
  exact walkI_in W (w:=w) (q:=step rss q x) (fun y hy=>hw y (List.mem_cons_of_mem _ hy)) a b
theorem walkI_snoc (rss:List (List Int)) (q:Int) (w:List Int) (x:Int):walkI rss q (w++[x])=step rss (walkI rss q w) x:=by
 unfold walkI;rw [List.foldl_append];rfl
theorem take_snoc {w:List Int} {i:Nat} {x:Int} (h:w[i]?=some x):w.take (i+1)=w.take i++[x]:=by
 rw [List.take_add_one,h];rfl
theorem WordOk.take {d:Int} {w:List Int} (h:WordOk d w) (i:Nat):WordOk d (w.take i):=fun x hx=>h x (List.mem_of_mem_take hx)
theorem map_range_snoc {α:Type} (f:Nat→α) (i:Nat):(List.range (i+1)).map f=(List.range i).map f++[f i]:=by
 rw [List.range_succ,List.map_append];rfl
end My
namespace L2
open PySem PySem.Spec PyProof.Rows
theorem ObjOk.ex {P:Program} {w:World} {H:Hp} {h:Heap} {a:Addr} {o:HO} (x:ObjOk P w H h a o):∃ ob,h.get? a=some ob:=by
 cases o with
 | lst xs=>obtain ⟨_,_,_,_,e⟩:=x;exact ⟨_,e⟩
 | tup xs=>obtain ⟨_,_,_,ob,e,_⟩:=x;exact ⟨_,e⟩
 | dK kvs=>obtain ⟨_,_,_,_,o,_,_,e,_⟩:=x;exact ⟨_,e⟩
 | dT kvs=>obtain ⟨_,_,_,_,o,_,_,e,_⟩:=x;exact ⟨_,e⟩
 | set S n=>obtain ⟨o,_,_,_,e,_⟩:=x;exact ⟨_,e⟩
 | ins C dx fs=>obtain ⟨_,_,_,e,_⟩:=x;exact ⟨_,e⟩
 | own y=>exact x
 | xd fs=>obtain ⟨_,⟨_,_,_,e,_⟩,_⟩:=x;exact ⟨_,e⟩
 | rng lo hi=>obtain ⟨_,_,_,e⟩:=x;exact ⟨_,e⟩
 | frz ob u=>obtain ⟨e,_⟩:=x;exact ⟨_,e⟩
 | tbl ps=>exact ⟨_,x⟩
 | met f y=>exact ⟨_,x⟩
 | ext φ=>exact x.2.1
def CXr (P:Program) (w:World):CXT:=fun outer H s E e s'=>∃ (ea:Addr) (cls a0:Value) (B:Heap) (H':Hp),e=.ref ea∧s'.os=s.os∧AllBare s'.gens∧Un (frs outer) [] H H' s.heap s'.heap∧HOk P w H' s'.heap ∧
 Heap.FlyingW B outer ea cls a0 s'.heap∧(∀ b o,s.heap.get? b=some o→b∉frs outer→∃ o',B.get? b=some o')∧(∀ b u,H' b=some u→∃ o',B.get? b=some o')∧E cls none H'
structure Xp (X:Cx) (E:XK):Prop where
 pass:Passes (CXr X.prog X.w) X E
 own:PassesOwn (model X.prog X.w) X.A X.env X.xe
def Xm (X:Cx) (E:XK):Prop:=∀ (pins:List (Addr×Obj)) (σ:St) (H:Hp) (s:Shared) (h':Heap) (e:Addr) (cls:Value) (args:List Value),Inv X pins σ H s→Heap.MadeExcOf s.heap h' e cls args→E cls none H→X.xe (.ref e) { s with heap:=h' }
theorem leave_un {X:Cx} {pins:List (Addr×Obj)} {σ:St} {H:Hp} {s1:Shared} (I:Inv X pins σ H s1) (he:X.ex=[]) {B h':Heap} (b1:B.StaysIn s1.heap) (b2:B.StaysIn h')
  (sm:∀ b o,s1.heap.get? b=some o→b∈X.fs→∃ sl,h'.get? b=some { o with slots:=sl }) (d1:∀ b o,X.s₀.heap.get? b=some o→b∉X.fs→∃ o',B.get? b=some o') (d2:∀ b u,H b=some u→∃ o',B.get? b=some o') :
  Un X.fs [] X.H₀ H X.s₀.heap h'∧HOk X.prog X.w H h':=by
 have same:∀ b o,s1.heap.get? b=some o→(∃ o',B.get? b=some o')→h'.get? b=some o:=fun b o e ⟨o',e'⟩=>by
  have z:=b1 b o' e'
  rw [e] at z;cases z
  exact b2 b o e'
 have nx:∀ b,b∉X.ex:=fun b z=>by rw [he] at z;cases z
 refine ⟨⟨fun b o q n hb _=>same b o (I.base.keep b o q n hb (nx b)) (d1 b o q hb),fun b o q n hb _=>?_,fun b o q n _=>I.base.free b o q n (nx b),fun b o q _=>?_,I.base.tups,I.base.frzs,I.base.tbls⟩,fun b u e=>?_⟩
 ·obtain ⟨sl,e1⟩:=I.base.slot b o q n hb (nx b)
  obtain ⟨sl',e2⟩:=sm b _ e1 hb
  exact ⟨sl',e2⟩
 ·obtain ⟨o1,e1⟩:=I.base.there b o q (nx b)
  by_cases hb:b∈X.fs
  ·obtain ⟨sl,e2⟩:=sm b o1 e1 hb
   exact ⟨_,e2⟩
  ·exact ⟨_,same b o1 e1 (d1 b o q hb)⟩
 ·refine (I.hok b u e).stay (fun c v hc q=>same c v q ?_) (fun _ q=>q) fun _ _ q=>q
  rcases hc with z | z
  ·rw [z];exact d2 b u e
  ·exact d2 c _ z
theorem Inv.offStack {X:Cx} {pins:List (Addr×Obj)} {σ:St} {H:Hp} {s:Shared} (I:Inv X pins σ H s) {b:Addr} {o:Obj} (q:X.s₀.heap.get? b=some o) (hb:b∉X.fs):b∉frs X.stack:=fun z=>by
 rcases List.mem_cons.mp (I.stkSub b z) with z | z
 ·rw [z] at q
  exact absurd (Nat.lt_of_lt_of_le (Heap.lt_size q) I.ok.above) (Nat.lt_irrefl _)
 ·exact hb z
theorem Inv.nonrec {X:Cx} {pins:List (Addr×Obj)} {σ:St} {H:Hp} {s:Shared} (I:Inv X pins σ H s) {b:Addr} {o:Obj} (q:s.heap.get? b=some o) (hb:b∈X.fs):∀ vs,o.data≠.fields vs:=by
 obtain ⟨_,o',e,hd⟩:=I.funs.mem hb
 rw [q] at e;cases e;exact hd
section
variable {P:Program} {w:World} {K:PySem.W.Frag} {mg:Str→Option Value} {base:Heap} {N:List Str} {qual:Str} {scope:Scope} {f:Addr} {cd:Value} {A:Around} {outer:List Env} {s:Shared} {H:Hp} {E:XK}
theorem xp_def:Xp (cxOf (CXr P w) P w K mg base N qual scope f cd A outer s H E) E where
 own:=PassesOwn.leaving
 pass:=by
  intro pins σ H1 s1 e s' I h
  obtain ⟨ea,cls,a0,B,H',rfl,ho,hg,u,hok,fl,dm,tr,hE⟩:=h
  have I':=I.call' ho u hok hg (fun b hb=>by cases hb)
  refine wpAny_leaves_onW I.ok.frames rfl fl fun h' fl' sm=>?_
  obtain ⟨un,hk⟩:=leave_un I' rfl fl.1 fl'.1 (fun b o q hb=>sm b o q (I'.nonrec q hb)) (fun b o q hb=>by
   obtain ⟨o1,e1⟩:=I.base.there b o q (fun z=>by cases z)
   exact dm b o1 e1 (I.offStack q hb)) tr
  exact ⟨ea,cls,a0,B,H',rfl,I'.os,hg,un,hk,fl',fun b o q hb=>by
   obtain ⟨o1,e1⟩:=I.base.there b o q (fun z=>by cases z)
   exact dm b o1 e1 (I.offStack q hb),tr,hE⟩
theorem xm_def:Xm (cxOf (CXr P w) P w K mg base N qual scope f cd A outer s H E) E:=by
 intro pins σ H1 s1 h' e cls args I mx hE
 have hkb:(PySem.W.hideAll s1.heap (frs (cxOf (CXr P w) P w K mg base N qual scope f cd A outer s H E).stack)).StaysIn s1.heap:=fun b o q=>PySem.W.of_hideAll _ q
 have dm:∀ b o,(cxOf (CXr P w) P w K mg base N qual scope f cd A outer s H E).s₀.heap.get? b=some o→b∉(cxOf (CXr P w) P w K mg base N qual scope f cd A outer s H E).fs→∃ o',(PySem.W.hideAll s1.heap (frs (cxOf (CXr P w) P w K mg base N qual scope f cd A outer s H E).stack)).get? b=some o':=fun b o q hb=>by
  obtain ⟨o1,e1⟩:=I.base.there b o q (fun z=>by cases z)
  exact ⟨o1,PySem.W.hideAll_get _ e1 (I.offStack q hb)⟩
 have tr:∀ b u,H1 b=some u→∃ o',(PySem.W.hideAll s1.heap (frs (cxOf (CXr P w) P w K mg base N qual scope f cd A outer s H E).stack)).get? b=some o':=fun b u q=>by
  obtain ⟨o1,e1⟩:=(I.hok b u q).ex
  exact ⟨o1,PySem.W.hideAll_get _ e1 (fun z=>by rw [I.stkFree b z] at q;cases q)⟩
 refine wpAny_leaves_madeW I.ok.frames rfl hkb (PySem.W.funFrames_hide I.stack fun env he a ha=>List.mem_filterMap.mpr ⟨env,he,ha⟩) mx fun h2 t fl tup hn sm=>?_
 obtain ⟨un,hk⟩:=leave_un I rfl hkb fl.1 (fun b o q hb=>sm b o (mx.keeps b o q) (I.nonrec q hb)) dm tr
 exact ⟨e,cls,.ref t,_,H1,rfl,I.os,I.bare,un,hk,fl,dm,tr,hE⟩
end
theorem Fun.okX {P:Program} {w:World} {K:PySem.W.Frag} {mg:Str→Option Value} {base:Heap} {x qual:Str} {st:Stmt} {f:Addr} {fd:FuncData} {N ps:List Str} {k:Nat} {sp:Sp} (F:Fun K x qual st f fd) (S:FnScope N ps (defScope st)) (len:∀ vs H Q E,sp vs H Q E→vs.length=ps.length)
  (hbody:∀ (cdv:Value) (A:Around) (outer:List Env) (s:Shared) (H:Hp) (vs:List V) (Q:VK) (E:XK),Room k (A.deeper (envOfC qual (defScope st) s.heap.objs.size f cdv))→sp vs H Q E →
   ∃ t,PSs (cxOf (CXr P w) P w K mg base N qual (defScope st) f cdv A outer s H E) (defBody st) t∧t { nx:=fun _ H'=>Q .non H',rt:=Q } (start N vs) H) :
  FnOk P w K mg base (CXr P w) (k+1) f fd ps sp:=by
 obtain ⟨oc,od,kV,doc,pm,an,cdv,ct,osl,rfl,lk,hcd⟩:=F.ex
 exact fn_of lk hcd S len fun A outer s H vs Q E hr h=>hbody cdv A outer s H vs Q E hr h
abbrev bmV:List Value:=[.type "ValueError",.type "Exception",.type "BaseException",.type "object"]
structure ExcCls (K:PySem.W.Frag) (x:Str) (C:Addr):Prop where
 at_:PySem.W.nsIn K mainGlobals x=some (some (.ref C))
 exc:PySem.W.excIn K C bmV "ValueError.__new__"=true
def keyStr (e:DictEntry):Option Str:=match e.key with
 | .str n _=>some n
 | _=>none
theorem nsFind_none {es:Array DictEntry} (hk:StrKeys es) {x:Str} (h:x∉es.toList.filterMap keyStr):nsFind es x=none:=by
 cases e:nsFind es x with
 | none=>rfl
 | some v =>
  exfalso
  unfold nsFind findBy at e
  rw [Option.map_eq_some_iff] at e
  obtain ⟨d,hd,_⟩:=e
  have hm:=Array.mem_of_find?_eq_some hd
  have hp:=Array.find?_some hd
  obtain ⟨n,t,hn⟩:=hk d hm
  refine h (List.mem_filterMap.mpr ⟨d,by simpa using hm,?_⟩)
  unfold keyStr
  rw [hn] at hp ⊢
  have hp:(Value.str n t).isStr x=true:=hp
  simp [Value.isStr] at hp
  simp [hp]
theorem own_mod {K:PySem.W.Frag} {mg:Str→Option Value} {base:Heap} {x:Str} {C:Addr} (M:Mod K mg base) (O:ExcCls K x C):OwnCls x C bmV "ValueError.__new__" mg base:=by
 obtain ⟨mb,hb,hbb⟩:=M.blt
 obtain ⟨o,es,ep,ho,hd,hk,hf⟩:=id M.glob
 exact PySem.W.own_of_in (p:=default) (loose:=es.toList.filterMap keyStr) M.kin ⟨M.glob,hb,M.nolimit,hbb,fun y _ hl _ _ _=>by rw [← hf y];exact nsFind_none hk hl⟩ O.at_ O.exc
def tRaise (E:XK) (C:Addr) (ta:TA):TS:=fun _ σ H=>ta σ H fun vs H1=>vs.length≤sizeLine∧E (.ref C) none H1
theorem ps_raise {X:Cx} {E:XK} {x:Str} {C:Addr} {e:Expr} {es:List Expr} {ta:TA} {np cpos pos:Pos} (xm:Xm X E) (hc:X.calm=true) (hg:Gl X x) (hm:X.mg x=some (.ref C)) (O:ExcCls X.K x C) (ha:PA X (e :: es) ta)
  (hd:(x == ("__debug__":Str))=false:=by decide) (he:starEach (e :: es) X.env=(false,eval e X.env) :: starEach es X.env:=by rfl) (hpl:(backTo cpos (starEach es X.env)).any (·.1)=false:=by rfl) :
  PS X (.Raise (some (.Call (.Name x np) (e :: es) [] cpos)) none pos) (tRaise E C ta):=by
 intro pins s σ H D I h
 obtain ⟨tl,Nn,nm,q,bs,hdct,sn,sub,ab,col,dd,k0,k1,k2,k3,k5,mN,hC,hN,hni,T⟩:=(own_mod I.mod O).obj
 refine wpAny_Raise_call_subT (C:=C) (nm:=nm) (q:=q) (N:=Nn) (bs:=bs) (bm:=tl) (hdct:=hdct) (sn:=sn) (sub:=sub) (ab:=ab) (col:=col) (dd:=dd) (k0:=k0) (k1:=k1) (k2:=k2) (k3:=k3) (k5:=k5)
  PySem.F.excBase_ValueError (mN:=mN) (T.hasType PySem.F.excBase_ValueError.hasBase) (I.ok.hd hc) (by rw [he];show (false || (backTo cpos (starEach es X.env)).any (·.1))=false;rw [hpl];rfl) hni (ld_glob I hg hm ⟨rfl,?_⟩ hd)
 have hA:=ha cpos pins s σ H _ I h
 rw [he] at hA ⊢
 refine Calls.evalArgs_plain (thn hA fun us s2 hh=>?_)
 obtain ⟨vs,H2,I2,rv,hl,hE⟩:=hh
 exact ⟨rfl,by rw [← rv.length];exact hl,I2.bk _ _ hC,hN.keeps I2.bk,T.keeps I2.bk,fun h' ea mx=>xm pins σ H2 s2 h' ea _ _ I2 mx hE⟩
def PJ (X:Cx) (es:List Expr) (t:St→Hp→(Hp→Prop)→Prop):Prop :=
 ∀ (out:Str) (pins:List (Addr×Obj)) (s:Shared) (σ:St) (H:Hp) (Q:VK),out.length+1000 * es.length+1≤sizeLine→Inv X pins σ H s→t σ H (fun H'=>∀ x,Q (.str x) H')→wpAny (model X.prog X.w) X.A (joinParts out (evalEach es X.env)) (EP X pins σ Q) X.xe s
def jNil:St→Hp→(Hp→Prop)→Prop:=fun _ H Q=>Q H
def jStr (t:St→Hp→(Hp→Prop)→Prop):St→Hp→(Hp→Prop)→Prop:=t
def jInt (te:TE) (t:St→Hp→(Hp→Prop)→Prop):St→Hp→(Hp→Prop)→Prop:=fun σ H Q=>te σ H fun x H1=>∃ i:Int,x=.int i∧i.natAbs.log2 < 64∧t σ H1 Q
def tJoined (t:St→Hp→(Hp→Prop)→Prop):TE:=fun σ H Q=>t σ H fun H'=>∀ x,Q (.str x) H'
section
variable {X:Cx} {e:Expr} {es:List Expr} {te:TE} {t:St→Hp→(Hp→Prop)→Prop} {pos p1 p2:Pos} {c:Str} {k:Nat}
theorem pj_nil:PJ X [] jNil:=fun out pins s σ H Q hz I h=>joinParts_nil ⟨.str out,H,I.tok _,⟨_,rfl⟩,h out⟩ (by omega)
theorem pj_str (hr:PJ X es t) (hc:c.length≤1000:=by decide):PJ X (.Constant (.str c) k pos :: es) (jStr t):=by
 intro out pins s σ H Q hz I h
 refine joinParts_cons (Calls.Constant_str ?_)
 rw [List.length_cons] at hz
 have hl:(out++c).length=out.length+c.length:=strLen_append ..
 exact ⟨by rw [hl];omega,hr (out++c) pins _ σ H Q (by rw [hl];omega) (I.tok _) h⟩
theorem pj_int (he:PE X e te) (hr:PJ X es t):PJ X (.FormattedValue e (-1) none pos :: es) (jInt te t):=by
 intro out pins s σ H Q hz I h
 refine joinParts_cons (FormattedValue_plain (thn (he pins s σ H _ I h) fun v s1 hh=>?_))
 obtain ⟨x,H1,I1,r,i,rfl,hi,h1⟩:=hh
 obtain ⟨tk,rfl⟩:=r
 rw [List.length_cons] at hz
 refine formatField_int_small (Nat.lt_trans hi (by decide)) ?_
 have hl:(out++(Str.ofString (toString i))).length=out.length+(Str.ofString (toString i)).length:=strLen_append ..
 have h2:=int_text_length_le (a:=i) (k:=64) (by decide) hi
 have h3:(Str.ofString (toString i)).length=(toString i).length:=PySem.ofString_length _
 exact ⟨by rw [show (out++(toString i:Str)).length=_ from hl,h3];omega,hr _ pins _ σ H1 Q (by rw [show (out++(toString i:Str)).length=_ from hl,h3];omega) (I1.tok _) h1⟩
theorem pe_joined {v₁ v₂:Expr} (h:PJ X (v₁ :: v₂ :: es) t) (hz:1000 * (es.length+2)+1≤sizeLine:=by decide):PE X (.JoinedStr (v₁ :: v₂ :: es) pos) (tJoined t):=by
 intro pins s σ H Q I hw
 exact JoinedStr_many (h Str.empty pins s σ H Q (by show 0+1000 * (es.length+1+1)+1≤sizeLine;omega) I hw)
end
end L2
namespace L2
open PySem PySem.W PySem.Spec PyProof.Rows PySem.Calls
section
variable {prog:Program} {w:World} {A:Around} {E:Value→Shared→Prop} {h:Heap} {g:Array GenState} {d:Drawn} {t:Nat} {os:OsState} {a C:Addr} {o:Obj} {K:Frag}
 {nm q:Str} {N:Addr} {bs bm:List Value} {hdct:Bool} {sn:List Str} {sub:List Value} {ab:Bool} {col:Option Bool} {dd:Option Addr} {k0 k1 k2 k3 k5:Option Value} {newId:String}
theorem xc_get {R:Result→Shared→Prop} {tp:Value} (hC:h.get? C=some (excClassObj nm q C N bs bm hdct sn sub ab col dd k0 k1 k2 k3 k5 newId)) (T:OwnTail h bmV bm) (hx:h.get? a=some o) (hc:o.cls=.ref C) (hq:R (.ok (.ret (.ref C))) ⟨h,g,d,t,os⟩) :
  codeAny (model prog w) A (.call (.builtin "getset_descriptor.__get__") ⟨[.builtin "object.__class__",.ref a,tp],[]⟩) R ⟨h,g,d,t,os⟩:=by
 have ofObj:(Value.ref C :: bm).contains (.type (".".intercalate ("object.__class__".cutAt '.').dropLast))=true:=by
  rw [F.owner_object_class,List.contains_cons,T.hasType (b:=true) (by decide +kernel)];rfl
 have hT5:(⟨h,g,d,t,os⟩:Shared).TypeIs (.builtin "object.__class__") "getset_descriptor":=F.typeOf_object_class
 refine codeAny_call_builtin F.slot_gs_get.plain
  F.entry_gs_get (F.slot_gs_get.check _ _ _ _ _ _ _ _ hT5
   (F.args_gs_get _ _ _) ?_)
 repeat (any_goals (first | assumption | (with_reducible refine wpAny_loadPart_at hx ?_;rw [hc]) | (with_reducible refine wpAny_isSubtype_exc hC ?_;rw [ofObj]) | wp_step))
 refine ⟨Code.quiet_builtin _ (by decide +kernel),codeAny_builtin
  F.entry_object_class ?_⟩
 repeat (any_goals (first | assumption | (with_reducible refine wpAny_loadPart_at hx ?_;rw [hc]) | wp_step))
theorem xc_entry {tk:Tok} {Q:Fin→Shared→Prop} (X:K.In h) (e3:findIn K (.ref C) "__class__"=some (some (.builtin "object.__class__"))) (hC:h.get? C=some (excClassObj nm q C N bs bm hdct sn sub ab col dd k0 k1 k2 k3 k5 newId)) (T:OwnTail h bmV bm) (hx:h.get? a=some o) (hc:o.cls=.ref C)
  (hq:Q (.done (.ret (.ref C))) ⟨h,g,d,t,os⟩) :
  wpAny (model prog w) A (Builtin.«object.__getattribute__» ⟨[.ref a,.str "__class__" tk],[]⟩) Q E ⟨h,g,d,t,os⟩:=by
 have hT5:(⟨h,g,d,t,os⟩:Shared).TypeIs (.builtin "object.__class__") "getset_descriptor":=F.typeOf_object_class
 have f5:=F.typeOf_object_class
 have f6:=F.slot_gs_get.lookup
 have f7:=F.slot_gs_set.lookup
 have LC:=looks_findIn (M:=model prog w) X e3
 repeat (any_goals (first | assumption | (with_reducible refine wpAny_loadPart_at hx ?_;rw [hc]) | with_reducible refine Looks.at LC ?_ | wp_step))
 refine xc_get hC T hx hc ?_
 repeat (any_goals (first | assumption | wp_step))
theorem xc_check {M:Model} {nv:Value} {Q:Unit→Shared→Prop} (hC:h.get? C=some (excClassObj nm q C N bs bm hdct sn sub ab col dd k0 k1 k2 k3 k5 newId)) (T:OwnTail h bmV bm) (hx:h.get? a=some o) (hc:o.cls=.ref C)
  (hq:Q () ⟨h,g,d,t,os⟩):wpAny M A (checkBuiltinCall "BaseException.__getattribute__" ⟨[.ref a,nv],[]⟩) Q E ⟨h,g,d,t,os⟩:=by
 have kd:builtinKind "BaseException.__getattribute__"=some .slot:=by decide +kernel
 have sp:splitId "BaseException.__getattribute__"=some ("BaseException","__getattribute__"):=by decide +kernel
 have isB:(Value.ref C :: bm).contains (.type "BaseException")=true:=by
  rw [List.contains_cons,T.hasType (b:=true) (by decide +kernel)];rfl
 have ok:=F.args_bexc_ga (.ref a) nv
 simp only [checkBuiltinCall,kd,sp]
 refine wpAny_bind ?_
 unfold isInstance
 repeat (first | (with_reducible refine wpAny_loadPart_at hx ?_;rw [hc]) | (with_reducible refine wpAny_isSubtype_exc hC ?_;rw [isB]) | wp_step)
 exact hq
theorem xc_by {tk:Tok} {Q:Value→Shared→Prop} (X:K.In h) (e1:findIn K (.ref C) "__getattribute__"=some (some (.builtin "BaseException.__getattribute__"))) (e2:findIn K (.ref C) "__getattr__"=some none)
  (e3:findIn K (.ref C) "__class__"=some (some (.builtin "object.__class__"))) (hC:h.get? C=some (excClassObj nm q C N bs bm hdct sn sub ab col dd k0 k1 k2 k3 k5 newId)) (T:OwnTail h bmV bm) (hx:h.get? a=some o) (hc:o.cls=.ref C)
  (hq:Q (.ref C) ⟨h,g,d,t,os⟩):wpAny (model prog w) A (getAttrBy (.ref a) (.str "__class__" tk) false) Q E ⟨h,g,d,t,os⟩:=by
 have LG:=looks_findIn (M:=model prog w) X e1
 have LN:=looks_findIn (M:=model prog w) X e2
 have f3:=PySem.F.attr_ValueError.ga.bind (.ref a)
 have nh:(onTheHeap (Value.ref C) && Value.builtin "BaseException.__getattribute__" == Value.builtin "object.__getattribute__")=false:=by
  rw [show (Value.builtin "BaseException.__getattribute__" == Value.builtin "object.__getattribute__")=false from by decide +kernel,Bool.and_false]
 repeat (any_goals (first | assumption | (with_reducible refine wpAny_loadPart_at hx ?_;rw [hc]) | with_reducible refine Looks.at LG ?_ | with_reducible refine Looks.at LN ?_ | wp_step))
 refine codeAny_call_builtin PySem.F.attr_ValueError.ga.plain F.entry_bexc_ga (xc_check hC T hx hc (xc_entry X e3 hC T hx hc ?_))
 repeat (any_goals (first | assumption | wp_step))
theorem xc_attr {Q:Option Value→Shared→Prop} (X:K.In h) (e1:findIn K (.ref C) "__getattribute__"=some (some (.builtin "BaseException.__getattribute__"))) (e2:findIn K (.ref C) "__getattr__"=some none)
  (e3:findIn K (.ref C) "__class__"=some (some (.builtin "object.__class__"))) (hC:h.get? C=some (excClassObj nm q C N bs bm hdct sn sub ab col dd k0 k1 k2 k3 k5 newId)) (T:OwnTail h bmV bm) (hx:h.get? a=some o) (hc:o.cls=.ref C)
  (hq:Q (some (.ref C)) ⟨h,g,d,t+1,os⟩):wpAny (model prog w) A (getAttr? (.ref a) "__class__") Q E ⟨h,g,d,t,os⟩:=by
 unfold getAttr? getAttrBy?
 repeat (any_goals (first | assumption | with_reducible apply xc_by X e1 e2 e3 hC T hx hc | wp_step))
end
structure ExcK (K:Frag) (x:Str) (C:Addr):Prop extends ExcCls K x C where
 e1:findIn K (.ref C) "__getattribute__"=some (some (.builtin "BaseException.__getattribute__"))
 e2:findIn K (.ref C) "__getattr__"=some none
 e3:findIn K (.ref C) "__class__"=some (some (.builtin "object.__class__"))
 e4:(clsIn K C).isSome=true
def ExcAt (ea C:Addr):Heap→Prop:=fun h=>∃ o vs,h.get? ea=some o∧o.cls=.ref C∧o.data=.fields vs
theorem kitx_exc {K:Frag} {mg:Str→Option Value} {base:Heap} {x:Str} {C ea:Addr} (M:Mod K mg base) (O:ExcK K x C) :
  KitX K (.ref ea) (.ref C) (fun h=>ExcAt ea C h∧∀ b o,base.get? b=some o→h.get? b=some o) where
 ty:=fun _ h _ p=>by
  obtain ⟨⟨o,vs,hx,hc,_⟩,_⟩:=p
  exact hc ▸ (Looks.ld hx).andThen .now
 it:=fun _ h X _=>by
  have e:=O.e4
  unfold clsIn at e
  split at e
  ·rename_i c' d' cd' sl' ho
   intro A' Q' E' s' k q
   unfold isType loadHead
   exact wpAny_bind (wpAny_loadPart (k _ _ (X _ _ ho)) (wpAny_pure q))
  ·cases e
 ne:=fun h tp dd its n sl X htp=>by
  refine Bool.eq_false_iff.mpr fun q=>?_
  have e:=O.e4
  have z:C=tp:=Value.ref.inj (beq_iff_eq.mp q)
  subst z
  unfold clsIn at e
  split at e
  ·rename_i c' d' cd' sl' ho
   have z:=(X _ _ ho).symm.trans htp
   cases z
  ·cases e
 ca:=fun {prog w A E Q s} X p k=>by
  obtain ⟨hp,g,d,t,os⟩:=s
  obtain ⟨⟨o,vs,hx,hc,_⟩,kp⟩:=p
  obtain ⟨tl,Nn,nm,q,bs,hdct,sn,sub,ab,col,dd,k0,k1,k2,k3,k5,mN,hC,hN,hni,T⟩:=((own_mod M O.toExcCls).keeps kp).obj
  exact xc_attr X O.e1 O.e2 O.e3 hC T hx hc k
end L2
namespace L2
open PySem PySem.Spec PyProof.Rows
structure RoomH (k:Nat) (A:Around):Prop where
 dp:A.depth+3 * k+5 < recursionLimit
 un:A.units+16 * k+200 < cLine
theorem RoomH.deeper {k:Nat} {A:Around} (r:RoomH (k+1) A) (env:Env):RoomH k (A.deeper env) :=
 ⟨by have:=r.dp;show A.depth+1+3 * k+5 < _;omega,by have:=r.un;show A.units+3+16 * k+200 < _;omega⟩
theorem RoomH.depth {k:Nat} {A:Around} (r:RoomH k A):A.depth < recursionLimit:=by have:=r.dp;omega
structure FnOkH (P:Program) (w:World) (K:PySem.W.Frag) (mg:Str→Option Value) (base:Heap) (CX:CXT) (k:Nat) (f:Addr) (fd:FuncData) (ps:List Str) (sp:Sp):Prop where
 len:∀ vs H Q E,sp vs H Q E→vs.length=ps.length
 run:∀ (A:Around) (outer:List Env) (s:Shared) (H:Hp) (args:Args) (us:List Value) (vs:List V) (Q:VK) (E:XK),RoomH k A→Env0 P w K mg base A outer s H→BindsTo s fd args (ps.zip us)→Vals vs us→sp vs H Q E →
  codeAny (model P w) A (.call (.ref f) args) (CR CX outer P w H s Q E) s
section
variable {X:Cx} {CX:CXT} {k:Nat} {f C:Addr} {fd:FuncData} {ps:List Str} {sp:Sp} {dvs:List V} {ds:List Value} {E:XK} {x m:Str} {p pos apos:Pos} {e o:Expr} {es:List Expr} {ta:TE} {t:TA}
theorem run_fnH {pins:List (Addr×Obj)} {σ:St} {H:Hp} {s:Shared} {Q:VK} {us:List Value} {vs:List V} (F:FnOkH X.prog X.w X.K X.mg X.base CX k f fd ps sp) (hr:RoomH k X.A) (hb:Binds X.K fd ps ds) (hd:Vals dvs ds) (hx:Passes CX X E)
  (I:Inv X pins σ H s) (r:Vals vs us) (h:sp (vs++dvs) H Q E):wpAny (model X.prog X.w) X.A (call (.ref f) us) (EP X pins σ Q) X.xe s:=by
 have r2:Vals (vs++dvs) (us++ds):=r.append hd
 have hl:(us++ds).length=ps.length:=by rw [← r2.length];exact F.len _ _ _ _ h
 refine wpAny_call (codeAny_mono (F.run X.A X.stack s H ⟨us,[]⟩ (us++ds) (vs++dvs) Q E hr I.env0 (hb s us I.kIn hl) r2 h) fun r s' hq=>?_)
 cases r with
 | error e=>exact hx pins σ H s e s' I hq
 | ok fl =>
  cases fl with
  | ret u=>exact I.after hq
  | next=>exact False.elim hq
  | brk=>exact False.elim hq
  | cont=>exact False.elim hq
theorem pe_callH (F:FnOkH X.prog X.w X.K X.mg X.base CX k f fd ps sp) (hr:RoomH k X.A) (hg:Gl X x) (hm:X.mg x=some (.ref f)) (hk:PySem.W.keepIn X.K (.ref f)=true) (hb:Binds X.K fd ps ds) (hd:Vals dvs ds) (hx:Passes CX X E)
  (ha:PA X (e :: es) t) (hdb:(x == ("__debug__":Str))=false:=by decide) (he:starEach (e :: es) X.env=(false,eval e X.env) :: starEach es X.env:=by rfl) (hpl:(backTo pos (starEach es X.env)).any (·.1)=false:=by rfl) :
  PE X (.Call (.Name x p) (e :: es) [] pos) (tCall sp dvs E t):=by
 intro pins s σ H Q I h
 refine wpAny_Call_Name_kw (ld_glob I hg hm ?_ hdb)
 refine PySem.W.callWith_K (h₀:=X.base) I.ok.mod.kin hk (thn (ha pos pins s σ H _ I h) fun us s1 ⟨vs,H1,I1,r,q⟩=>⟨I1.kIn,?_⟩) he hpl
 exact run_fnH F hr hb hd hx I1 r q
end
def cxOfH (CX:CXT) (P:Program) (w:World) (K:PySem.W.Frag) (mg:Str→Option Value) (base:Heap) (N:List Str) (qual:Str) (scope:Scope) (f:Addr) (cd:Value) (A:Around) (outer:List Env) (s:Shared) (H:Hp) (E:XK):Cx where
 prog:=P
 w:=w
 K:=K
 mg:=mg
 base:=base
 A:=A.deeper (envOfC qual scope s.heap.objs.size f cd)
 N:=N
 s₀:=s
 H₀:=H
 env:=envOfC qual scope s.heap.objs.size f cd
 outer:=outer
 stack:=envOfC qual scope s.heap.objs.size f cd :: outer
 ex:=[]
 calm:=false
 fn:=fun _=>true
 pn:=[]
 xe:=fun e s'=>wpAny (model P w) (A.deeper (envOfC qual scope s.heap.objs.size f cd)) (leaving (envOfC qual scope s.heap.objs.size f cd) e) (fun _ s''=>CX outer H s E e s'') (fun e' s''=>CX outer H s E e' s'') s'
theorem inv_startH {CX:CXT} {P:Program} {w:World} {K:PySem.W.Frag} {mg:Str→Option Value} {base:Heap} {N ps:List Str} {qual:Str} {scope:Scope} {f:Addr} {cd:Value} {A:Around} {outer:List Env} {s s1:Shared} {H:Hp} {E:XK} {us:List Value} {vs:List V}
  (S:FnScope N ps scope) (e0:Env0 P w K mg base A outer s H) (hl:vs.length=ps.length) (r:Vals vs us)
  (x:InCallC s s.heap.objs.size (bindL (envOfC qual scope s.heap.objs.size f cd).kindOf (ps.zip us) fun _=>none) (cellsFrom (s.heap.objs.size+1) scope.names []) (bindC (envOfC qual scope s.heap.objs.size f cd).kindOf (ps.zip us) fun _=>none) s1) :
  Inv (cxOfH CX P w K mg base N qual scope f cd A outer s H E) [] (start N vs) H s1:=by
 have hpl:ps.length≤N.length:=by have:=congrArg List.length S.pre;rw [List.length_take] at this;omega
 obtain ⟨h1,tk,rfl,hk⟩:=x.done
 have noA:∀ b:Addr,b∉(cxOfH CX P w K mg base N qual scope f cd A outer s H E).ex:=fun b z=>absurd (show b∈([]:List Addr) from z) (by simp)
 refine ⟨⟨e0.mod,S.kind,rfl,rfl,Nat.le_refl _,fun y z c h1 h2=>?_,fun y hy=>?_,fun y c _ h=>?_,fun z=>(by cases z),Around.frames_deeper e0.frames,.inr ⟨rfl,rfl⟩,fun b z=>absurd z (noA b),e0.bs,e0.bsz,fun b _ _=>noA b,fun b z=>absurd z (noA b),e0.funs,e0.frf⟩,
  rfl,e0.bare,Un.kept hk,⟨_,x.toInCall.ns,fun i y v h1 h2 h3=>?_⟩,fun y c h=>⟨_,x.cell y c h⟩,e0.hok.fresh (Nat.le_refl _),fun y c h=>?_,fun p hp=>absurd (show p∈([]:List (Addr×Obj)) from hp) (by simp),e0.hok.kept hk,?_⟩
 ·exact name_of_addr x.apart (PySem.mem_of_lookup h1) (PySem.mem_of_lookup h2)
 ·have hy:scope.names.lookup y=some .cell∨scope.names.lookup y=some .free:=hy
  rcases hy with hy | hy
  ·exact cell_has hy
  ·exact absurd rfl (S.nofree _ (PySem.mem_of_lookup hy))
 ·exact Nat.le_of_lt (x.above y c (PySem.mem_of_lookup h))
 ·have hi:i < vs.length:=by
   unfold start at h2
   by_cases hi:i < vs.length
   ·exact hi
   ·rw [List.getElem?_append_right (by simpa using hi)] at h2
    rw [List.getElem?_replicate] at h2
    split at h2 <;> cases h2
  have ha:vs[i]?=some v:=by
   unfold start at h2
   rw [List.getElem?_append_left (by simpa using hi),List.getElem?_map] at h2
   cases e:vs[i]? with
   | none=>rw [e] at h2;cases h2
   | some a=>rw [e] at h2;cases h2;rfl
  obtain ⟨u,hu,rv⟩:=r.get ha
  have hp:ps[i]?=some y:=by
   rw [← S.pre,List.getElem?_take_of_lt (by omega)];exact h1
  have ndP:ps.Nodup:=by rw [← S.pre];exact S.nd.sublist (List.take_sublist _ _)
  refine ⟨u,rv,?_⟩
  rcases S.par y (List.mem_of_getElem? hp) with k | k
  ·exact .inl ⟨k,bindL_get ndP hp hu k⟩
  ·obtain ⟨c,e⟩:=cell_has (n:=s.heap.objs.size+1) k
   refine .inr ⟨.inl k,c,e,?_⟩
   have q:=x.cell y c e
   rw [bindC_get ndP hp hu (by show scope.names.lookup y≠_;rw [k];decide)] at q
   exact q
 ·exact e0.hok.fresh (Nat.le_of_lt (x.above y c (PySem.mem_of_lookup h)))
 ·unfold start
  show _=N.length
  rw [List.length_append,List.length_map,List.length_replicate]
  omega
theorem fn_ofH {CX:CXT} {P:Program} {w:World} {K:PySem.W.Frag} {mg:Str→Option Value} {base:Heap} {k:Nat} {f:Addr} {name qual:Str} {params:Arguments} {body:List Stmt} {scope:Scope} {dV kV doc pm cdv ct oc:Value} {an od:Option Addr}
  {osl:Array (Option Value)} {N ps:List Str} {sp:Sp} (lk:K.lookup f=some ⟨oc,od,.func (PySem.W.fnOf name qual params body scope dV kV doc pm an cdv ct),osl⟩) (hcd:PySem.W.codeIn K cdv qual=true) (S:FnScope N ps scope)
  (len:∀ vs H Q E,sp vs H Q E→vs.length=ps.length)
  (hbody:∀ (A:Around) (outer:List Env) (s:Shared) (H:Hp) (vs:List V) (Q:VK) (E:XK),RoomH k (A.deeper (envOfC qual scope s.heap.objs.size f cdv))→sp vs H Q E →
   ∃ t,PSs (cxOfH CX P w K mg base N qual scope f cdv A outer s H E) body t∧t { nx:=fun _ H'=>Q .non H',rt:=Q } (start N vs) H) :
  FnOkH P w K mg base CX (k+1) f (PySem.W.fnOf name qual params body scope dV kV doc pm an cdv ct) ps sp:=by
 refine ⟨len,fun A outer s H args us vs Q E hr e0 hb r hsp=>?_⟩
 have hl:=len _ _ _ _ hsp
 have KX:K.In s.heap:=e0.mod.kin.keeps fun b o e=>(e0.bs b o e).1
 have lim:s.heap.NoLimit:=e0.mod.nolimit.keeps fun b o e=>(e0.bs b o e).1
 have hkind:∀ y∈ps.zip us,scope.names.lookup y.1=some .local∨(scope.names.lookup y.1=some .cell∧((cellsFrom (s.heap.objs.size+1) scope.names []).lookup y.1).isSome=true):=fun ⟨n,v⟩ hy=>by
  rcases S.par n (List.of_mem_zip hy).1 with q | q
  ·exact .inl q
  ·exact .inr ⟨q,PySem.W.cellsFrom_some _ _ _ (.inl q)⟩
 refine codeAny_call_function hr.depth (KX _ _ lk) rfl S.co S.gen rfl (PySem.W.codeRec_of KX hcd) (hb _ _ _ _ ?_)
 refine wpAny_newFunctionEnv_cells S.kind hkind fun env he s1 x=>?_
 subst he
 refine ⟨lim.keeps x.toInCall.keep,codeAny_func ?_⟩
 obtain ⟨t,ht,hq⟩:=hbody A outer s H vs Q E (hr.deeper _) hsp
 have I:Inv (cxOfH CX P w K mg base N qual scope f cdv A outer s H E) [] (start N vs) H s1:=inv_startH S e0 hl r x
 refine wpAny_mono (ht [] s1 (start N vs) H _ I hq) (fun fl s' hs=>?_) fun e s' hs=>hs
 have fin:∀ {σ':St} {H':Hp} {v:V} {u:Value},Inv (cxOfH CX P w K mg base N qual scope f cdv A outer s H E) [] σ' H' s'→RelV v u→Q v H'→CE outer P w H s Q u s' :=
  fun {σ' H' v u} J rv q=>⟨v,H',J.os,J.bare,J.base,J.hok,rv,q⟩
 cases fl with
 | ret u =>
  obtain ⟨v,σ',H',J,rv,q⟩:=hs
  exact fin J rv q
 | next =>
  obtain ⟨σ',H',J,q⟩:=hs
  exact fin (v:=V.non) (u:=Value.none) J rfl q
 | brk =>
  obtain ⟨_,_,_,q⟩:=hs
  exact False.elim q
 | cont =>
  obtain ⟨_,_,_,q⟩:=hs
  exact False.elim q
section
variable {P:Program} {w:World} {K:PySem.W.Frag} {mg:Str→Option Value} {base:Heap}
theorem Fun.okH {x qual:Str} {st:Stmt} {f:Addr} {fd:FuncData} {N ps:List Str} {k:Nat} {sp:Sp} (F:Fun K x qual st f fd) (S:FnScope N ps (defScope st)) (len:∀ vs H Q E,sp vs H Q E→vs.length=ps.length)
  (hbody:∀ (cdv:Value) (A:Around) (outer:List Env) (s:Shared) (H:Hp) (vs:List V) (Q:VK) (E:XK),RoomH k (A.deeper (envOfC qual (defScope st) s.heap.objs.size f cdv))→sp vs H Q E →
   ∃ t,PSs (cxOfH CX0 P w K mg base N qual (defScope st) f cdv A outer s H E).nox (defBody st) t∧t { nx:=fun _ H'=>Q .non H',rt:=Q } (start N vs) H):FnOkH P w K mg base CX0 (k+1) f fd ps sp:=by
 obtain ⟨oc,od,kV,doc,pm,an,cdv,ct,osl,rfl,lk,hcd⟩:=F.ex
 refine fn_ofH lk hcd S len fun A outer s H vs Q E hr hsp=>?_
 obtain ⟨t,h,q⟩:=hbody cdv A outer s H vs Q E hr hsp
 exact ⟨t,h.nox,q⟩
end
end L2
namespace L2
open PySem PySem.Spec PyProof.Rows
theorem vals_refs:∀ {cs:List Addr} {us:List Value},Vals (cs.map V.ref) us→us=cs.map Value.ref
 | [],_,r=>by cases r;rfl
 | c :: cs,_,r=>by
  cases r with
  | cons r rr=>cases r;rw [vals_refs rr];rfl
section
variable {X:Cx} (K:PySem.W.Frag)
theorem call_isinstX (hK:X.K=K:=by rfl):CallR X (.builtin "isinstance") (fun xs H Q=>∃ (ea C:Addr) (x:Str) (c:V) (cv:Value) (b:Bool),xs=[.ref ea,c]∧H ea=some (.ext (ExcAt ea C))∧ExcK K x C∧cvV c=some cv∧PySem.W.kitOne K (.ref C) cv=some b∧Q (.bl b) H):=by
 subst hK
 intro pins s σ H xs us Q I r h
 obtain ⟨ea,C,x,c,cv,b,rfl,he,O,hc,hk,q⟩:=h
 obtain ⟨u,w',rfl,r1,r2⟩:=vals2 r
 have e:w'=cv:=by
  cases c with
  | ty n=>have h1:w'=Value.type n:=r2;have h2:some (Value.type n)=some cv:=hc;cases h2;exact h1
  | ref a=>have h1:w'=Value.ref a:=r2;have h2:some (Value.ref a)=some cv:=hc;cases h2;exact h1
  | non=>cases hc
  | bl _=>cases hc
  | int _=>cases hc
  | str _=>cases hc
  | byt _=>cases hc
  | flt _=>cases hc
 subst e
 cases r1
 have φ:ExcAt ea C s.heap:=(show ObjOk X.prog X.w H s.heap ea (.ext (ExcAt ea C)) from I.hok ea _ he).1
 exact PySem.W.kia_one (kitx_exc I.mod O) I.kIn ⟨φ,I.bk⟩ hk (fun z=>nomatch z) fun tk=>⟨.bl b,H,I.tok tk,rfl,q⟩
end
def wish2 (X:Cx) (xe:Value→Shared→Prop) (pn:List (Addr×Obj)):Cx:={ X with xe:=xe,pn:=pn }
def suiteX (X:Cx) (ea:Addr) (pn:List (Addr×Obj)):Cx:={ X with A:=X.A.mark (some (.ref ea)),calm:=false,xe:=fun _ _=>False,pn:=pn }
section
variable {X:Cx} {pins pins1:List (Addr×Obj)} {σ:St} {H:Hp} {s:Shared} {xe:Value→Shared→Prop} {ea:Addr}
theorem Inv.toW (I:Inv X pins σ H s):Inv (wish2 X xe (X.pn++pins)) [] σ H s :=
 ⟨⟨I.ok.mod,I.ok.kind,I.ok.glob,I.ok.blt,I.ok.above,I.ok.inj,I.ok.has,I.ok.cab,I.ok.hd,I.ok.frames,I.ok.stk,I.ok.exf,I.ok.bs,I.ok.bsz,I.ok.noex,I.ok.exfs,I.ok.funs,I.ok.frf⟩,I.os,I.bare,I.base,I.loc,I.cell,I.free,I.freeC,
  fun p hp=>I.pin p (by have z:p∈(X.pn++pins)++[]:=hp;simpa using z),I.hok,I.len⟩
theorem Inv.ofW (I:Inv (wish2 X xe (X.pn++pins)) pins1 σ H s):Inv X pins σ H s :=
 ⟨⟨I.ok.mod,I.ok.kind,I.ok.glob,I.ok.blt,I.ok.above,I.ok.inj,I.ok.has,I.ok.cab,I.ok.hd,I.ok.frames,I.ok.stk,I.ok.exf,I.ok.bs,I.ok.bsz,I.ok.noex,I.ok.exfs,I.ok.funs,I.ok.frf⟩,I.os,I.bare,I.base,I.loc,I.cell,I.free,I.freeC,
  fun p hp=>I.pin p (List.mem_append_left _ hp),I.hok,I.len⟩
theorem Inv.toS (I:Inv X pins σ H s):Inv (suiteX X ea (X.pn++pins)) [] σ H s :=
 ⟨⟨I.ok.mod,I.ok.kind,I.ok.glob,I.ok.blt,I.ok.above,I.ok.inj,I.ok.has,I.ok.cab,fun z=>(by cases z),I.ok.frames,I.ok.stk,I.ok.exf,I.ok.bs,I.ok.bsz,I.ok.noex,I.ok.exfs,I.ok.funs,I.ok.frf⟩,I.os,I.bare,I.base,I.loc,I.cell,I.free,I.freeC,
  fun p hp=>I.pin p (by have z:p∈(X.pn++pins)++[]:=hp;simpa using z),I.hok,I.len⟩
theorem Inv.ofS (hd:X.calm=true→X.A.handled=none) (fr:X.A.frames=some X.stack) (I:Inv (suiteX X ea (X.pn++pins)) pins1 σ H s):Inv X pins σ H s :=
 ⟨⟨I.ok.mod,I.ok.kind,I.ok.glob,I.ok.blt,I.ok.above,I.ok.inj,I.ok.has,I.ok.cab,hd,fr,I.ok.stk,I.ok.exf,I.ok.bs,I.ok.bsz,I.ok.noex,I.ok.exfs,I.ok.funs,I.ok.frf⟩,I.os,I.bare,I.base,I.loc,I.cell,I.free,I.freeC,
  fun p hp=>I.pin p (List.mem_append_left _ hp),I.hok,I.len⟩
theorem fly_un {H':Hp} {s':Shared} {B h5:Heap} (I:Inv X pins σ H s) (u:Un (frs X.stack) [] H H' s.heap s'.heap) (hok:HOk X.prog X.w H' s'.heap) (b1:B.StaysIn s'.heap) (b2:B.StaysIn h5) (sm:s'.heap.UpToSlots h5)
  (dm:∀ b o,s.heap.get? b=some o→b∉frs X.stack→∃ o',B.get? b=some o') (tr:∀ b u,H' b=some u→∃ o',B.get? b=some o'):Un (frs X.stack) [] H H' s.heap h5∧HOk X.prog X.w H' h5:=by
 have same:∀ b o,s'.heap.get? b=some o→(∃ o',B.get? b=some o')→h5.get? b=some o:=fun b o e ⟨o',e'⟩=>by
  have z:=b1 b o' e'
  rw [e] at z;cases z
  exact b2 b o e'
 have fr:∀ b o,s.heap.get? b=some o→b∈frs X.stack→∃ sl,h5.get? b=some { o with slots:=sl }:=fun b o q hb=>by
  obtain ⟨sl,e1⟩:=u.slot b o q (I.stkFree b hb) hb (by simp)
  obtain ⟨_,o',e',hd⟩:=I.stack.mem hb
  rw [q] at e';cases e'
  obtain ⟨sl',e2⟩:=sm b _ e1 hd
  exact ⟨sl',e2⟩
 refine ⟨⟨fun b o q n hb hx=>same b o (u.keep b o q n hb hx) (dm b o q hb),fun b o q n hb _=>fr b o q hb,fun b o q n hx=>u.free b o q n hx,fun b o q hx=>?_,u.tups,u.frzs,u.tbls⟩,fun b v e=>?_⟩
 ·by_cases hb:b∈frs X.stack
  ·obtain ⟨sl,e2⟩:=fr b o q hb
   exact ⟨_,e2⟩
  ·obtain ⟨o1,e1⟩:=u.there b o q hx
   exact ⟨_,same b o1 e1 (dm b o q hb)⟩
 ·refine (hok b v e).stay (fun c v hc q=>same c v q ?_) (fun _ q=>q) fun _ _ q=>q
  rcases hc with z | z
  ·rw [z];exact tr b _ e
  ·exact tr c _ z
theorem Inv.goes {i:Nat} {n:Str} {m:Str→Option Value} {h':Heap} {v:Option Value} {t':Nat} (I:Inv X pins σ H s) (hN:X.N.Nodup) (hi:X.N[i]?=some n)
  (hm:∀ (j:Nat) (x:Str) (v:V),X.N[j]?=some x→σ[j]?=some (some v)→Vis X.env.scope x→∃ u,RelV v u∧Look X.env s.heap m x u)
  (hn':h'.Ns X.env.locals (fun x=>if x=n then v else m x)) (hs:Heap.SameBut X.env.locals s.heap h'):Inv X pins (σ.set i none) H { s with heap:=h',toks:=t' }:=by
 have keep:∀ b o,b≠X.env.locals→s.heap.get? b=some o→h'.get? b=some o:=fun b o hb e=>(hs.2 b hb).trans e
 have neL:∀ b o,X.s₀.heap.get? b=some o→b≠X.env.locals:=fun b o e=>Nat.ne_of_lt (Nat.lt_of_lt_of_le (Heap.lt_size e) I.ok.above)
 refine ⟨I.ok,I.os,I.bare,⟨fun b o e q hb hx=>keep b o (neL b o e) (I.base.keep b o e q hb hx),fun b o e q hb hx=>?_,I.base.free,fun b o e hx=>?_,I.base.tups,I.base.frzs,I.base.tbls⟩,⟨_,hn',fun j y w' e1 e2 e3=>?_⟩,fun y c e=>?_,I.free,I.freeC,fun p hp=>?_,fun b ob e=>?_,by simpa using I.len⟩
 ·obtain ⟨sl,e1⟩:=I.base.slot b o e q hb hx
  exact ⟨sl,keep b _ (neL b o e) e1⟩
 ·obtain ⟨o',e1⟩:=I.base.there b o e hx
  exact ⟨o',keep b _ (neL b o e) e1⟩
 ·by_cases hj:i=j
  ·subst hj
   rw [List.getElem?_set] at e2
   simp only [if_true] at e2
   split at e2 <;> cases e2
  ·rw [List.getElem?_set_ne hj] at e2
   have hy:y≠n:=fun z=>hj (nodup_ix hN hi (z ▸ e1))
   obtain ⟨u,r,l⟩:=hm j y w' e1 e2 e3
   refine ⟨u,r,?_⟩
   rcases l with ⟨k,q⟩ | ⟨k,c,q,z⟩
   ·exact .inl ⟨k,by dsimp only;rw [if_neg hy];exact q⟩
   ·obtain ⟨oc,hoc,hcd⟩:=z
    exact .inr ⟨k,c,q,oc,keep c oc (I.cne y c q) hoc,hcd⟩
 ·obtain ⟨v',oc,hoc,hcd⟩:=I.cell y c e
  exact ⟨v',oc,keep c oc (I.cne y c e) hoc,hcd⟩
 ·obtain ⟨e,q,ne,nf,d⟩:=I.pin p hp
  exact ⟨keep p.1 p.2 ne e,q,ne,nf,d⟩
 ·refine (I.hok b ob e).stay (fun c w' hc q=>keep c w' (fun z=>?_) q) (fun _ q=>q) fun _ _ q=>q
  have hf:=I.free
  rcases hc with z' | z'
  ·rw [← z',z] at e;rw [hf] at e;cases e
  ·rw [z,hf] at z';cases z'
end
def suiteEnds (i:Nat) (D:Ends):Ends:=⟨fun σ' H2=>D.nx (σ'.set i none) H2,D.rt,fun σ' H2=>D.bk (σ'.set i none) H2,fun σ' H2=>D.ct (σ'.set i none) H2⟩
end L2
namespace L2
open PySem PySem.Spec PyProof.Rows
theorem pass0X {P:Program} {w:World} {X:Cx}:Passes (CXr P w) X E0:=fun _ _ _ _ _ _ _ h=>by
 obtain ⟨_,_,_,_,_,_,_,_,_,_,_,_,_,z⟩:=h
 exact z.elim
theorem roomH {k j:Nat} {A:Around} {h:Option Value} (r:Room k A) (hj:j≤k):RoomH j (A.mark h):=⟨by have:=r.dp;show A.depth+3 * j+5 < _;omega,by have:=r.un;show A.units+16 * j+200 < _;omega⟩
section
variable {K:PySem.W.Frag} {C C':Addr} {b:Bool}
theorem kit_self:PySem.W.kitOne K (.ref C) (.ref C)=some true:=by unfold PySem.W.kitOne;rw [if_pos (beq_self_eq_true _)]
theorem kit_sub (hne:C≠C') (c1:PySem.W.isClsIn K C'=true) (c2:PySem.W.typeIn K (.ref C')=some (.type "type")) (m:PySem.W.mroIn K C (.ref C')=some b):PySem.W.kitOne K (.ref C) (.ref C')=some b:=by
 unfold PySem.W.kitOne PySem.W.kitCls
 rw [if_neg (fun z=>hne (Value.ref.inj (beq_iff_eq.mp z)))]
 dsimp only
 have c1:(PySem.W.clsIn K C').isSome=true:=c1
 rw [c1,c2,if_pos (by decide +kernel)]
 exact m
theorem ne_mro (h1:PySem.W.mroIn K C (.ref C)=some true) (h2:PySem.W.mroIn K C (.ref C')=some false):C≠C':=fun z=>by rw [← z,h1] at h2;cases h2
theorem kit_val (m:PySem.W.mroIn K C (.type "ValueError")=some true):PySem.W.kitOne K (.ref C) (.type "ValueError")=some true:=by
 unfold PySem.W.kitOne PySem.W.kitCls
 rw [if_neg (by intro z;cases beq_iff_eq.mp z)]
 dsimp only
 rw [if_pos (by decide +kernel)]
 exact m
end
section
variable {E:XK} {C:Addr} {ta:TA} {D:Ends} {σ:St} {H:Hp} {Q:VK} {te:TE} {t:St→Hp→(Hp→Prop)→Prop} {R:Hp→Prop} {n i:Nat} {tb:XK→TS} {ts:TS}
theorem r_raise (h:ta σ H fun vs H1=>vs.length≤sizeLine∧E (.ref C) none H1):tRaise E C ta D σ H:=h
theorem r_joined (h:t σ H fun H'=>∀ x,Q (.str x) H'):tJoined t σ H Q:=h
theorem r_jstr (h:t σ H R):jStr t σ H R:=h
theorem r_jnil (h:R H):jNil σ H R:=h
theorem r_jint (h:te σ H fun x H1=>∃ i:Int,x=.int i∧i.natAbs.log2 < 64∧t σ H1 R):jInt te t σ H R:=h
end
theorem r_snx {D:Ends} {i:Nat} {σ:St} {H:Hp} (h:D.nx (σ.set i none) H):(suiteEnds i D).nx σ H:=h
theorem small_log {i:Int} (h0:-1000000≤i) (h1:i≤1000000):i.natAbs.log2 < 64:=by
 by_cases hz:i.natAbs=0
 ·rw [hz];decide
 ·rw [Nat.log2_lt hz]
  have:i.natAbs≤1000000:=by omega
  omega
end L2
namespace L2
open PySem PySem.Spec PyProof.Rows
open PySem.AutoSeq1 (wpAny_loadPart')
open PySem.MeetsSeq PySem.MeetsSeq2 PySem.MeetsSeq3 PySem.SeqAt
theorem Same.upd_fresh {H H':Hp} {b:Addr} {o:HO} (h:Same H H') (hb:H b=Option.none):Same H (upd H' b o):=fun c u e=>by
 rw [upd_ne (ne_of_none e hb)];exact h c u e
theorem Room.units1 {k:Nat} {A:Around} (r:Room k A):A.units+1 < cLine:=by have:=r.units;omega
section
variable {X:Cx} (K:PySem.W.Frag)
theorem sl_listK (hK:X.K=K:=by rfl):SlR X (rSlL K):=by subst hK;exact sl_list
end
section
variable {σ:St} {H:Hp} {Q:VK} {to td ty tv te:TE} {D:Ends} {trs:List (TE×TE)} {K:PySem.W.Frag} {T:String} {r:V→List V→Hp→VK→Prop}
theorem r_dnotin (h:ty σ H fun y H1=>td σ H1 fun x H2=>∃ a o,x=.ref a∧DGet H2 a y o∧Q (.bl (!o.isSome)) H2):tDNotIn ty td σ H Q:=h
theorem r_dput (h:tv σ H fun v H1=>td σ H1 fun x H2=>ty σ H2 fun y H3=>∃ a H4,x=.ref a∧DPut H3 a y v H4∧D.nx σ H4):sDPut td ty tv D σ H:=h
theorem r_dnew (h:∀ p,H p=none→Q (.ref p) (upd H p (.dK []))):tDNewK σ H Q:=h
theorem r_sl {r:V→Option Int→Option Int→Hp→VK→Prop} {tl th:TO} (h:te σ H fun x H1=>tl σ H1 fun l H2=>th σ H2 fun u H3=>r x l u H3 Q):tSl r te tl th σ H Q:=h
theorem r_nopart {Q:Option Int→Hp→Prop} (h:Q none H):tNoPart σ H Q:=h
theorem r_part {Q:Option Int→Hp→Prop} (h:te σ H fun x H1=>∃ i,x=.int i∧Q (some i) H1):tPart te σ H Q:=h
end
end L2
namespace My
open PySem L2
theorem nodup_le:∀ (n:Nat) (l:List Nat),l.Nodup→(∀ x∈l,x < n)→l.length≤n
 | 0,l,_,h=>by
  cases l with
  | nil=>simp
  | cons a r=>exact absurd (h a List.mem_cons_self) (Nat.not_lt_zero _)
 | n+1,l,hn,h=>by
  by_cases hm:n∈l
  ·have h1:=nodup_le n (l.erase n) (hn.erase n) fun x hx=>by
    have h2:=(hn.mem_erase_iff.mp hx)
    have:=h x h2.2
    have:=h2.1
    omega
   rw [List.length_erase_of_mem hm] at h1
   omega
  ·have:=nodup_le n l hn fun x hx=>by
    have h1:=h x hx
    have h2:x≠n:=fun z=>hm (z ▸ hx)
    omega
   omega
end My
namespace L2
open PySem PySem.Spec PyProof.Rows
theorem cells_app:∀ (names:List (Str×NameKind)) (n:Nat) (acc:List (Str×Addr)),cellsFrom n names acc=cellsFrom n names []++acc
 | [],_,_=>rfl
 | (x,k) :: r,n,acc=>by
  unfold cellsFrom
  split
  ·rw [cells_app r (n+1) ((x,n) :: acc),cells_app r (n+1) [(x,n)],List.append_assoc];rfl
  ·exact cells_app r n acc
theorem cells_mem:∀ {names:List (Str×NameKind)} {n:Nat} {x:Str} {c:Addr},(x,c)∈cellsFrom n names []→(x,NameKind.cell)∈names
 | [],_,_,_,h=>by simp [cellsFrom] at h
 | (y,k) :: r,n,x,c,h=>by
  unfold cellsFrom at h
  split at h
  ·rename_i hk
   rw [cells_app] at h
   rcases List.mem_append.mp h with h | h
   ·exact List.mem_cons_of_mem _ (cells_mem h)
   ·have e:=List.mem_singleton.mp h
    cases e
    rw [beq_iff_eq.mp hk];exact List.mem_cons_self
  ·exact List.mem_cons_of_mem _ (cells_mem h)
theorem lookup_app {l r:List (Str×Addr)} {x:Str} {c:Addr} (h:(l++r).lookup x=some c):l.lookup x=some c∨(l.lookup x=none∧r.lookup x=some c):=by
 induction l with
 | nil=>exact .inr ⟨rfl,h⟩
 | cons p l ih =>
  obtain ⟨y,d⟩:=p
  rw [List.cons_append,List.lookup_cons] at h
  rw [List.lookup_cons]
  cases hb:x == y with
  | true=>rw [hb] at h;exact .inl h
  | false=>rw [hb] at h;exact ih h
theorem lookup_app_l {l r:List (Str×Addr)} {x:Str} {c:Addr} (h:l.lookup x=some c):(l++r).lookup x=some c:=by
 induction l with
 | nil=>cases h
 | cons p l ih =>
  obtain ⟨y,d⟩:=p
  rw [List.cons_append,List.lookup_cons]
  rw [List.lookup_cons] at h
  cases hb:x == y with
  | true=>rw [hb] at h;exact h
  | false=>rw [hb] at h;exact ih h
theorem lookup_app_r {l r:List (Str×Addr)} {x:Str} (h:l.lookup x=none):(l++r).lookup x=r.lookup x:=by
 induction l with
 | nil=>rfl
 | cons p l ih =>
  obtain ⟨y,d⟩:=p
  rw [List.cons_append,List.lookup_cons]
  rw [List.lookup_cons] at h
  cases hb:x == y with
  | true=>rw [hb] at h;cases h
  | false=>rw [hb] at h;exact ih h
theorem newEnv_some {M:Model} {A:Around} {E:Value→Shared→Prop} {s:Shared} {scope:Scope} {globals:Addr} {cl:List (Str×Addr)} {qual:Str} {env:Env} {Q:Env→Shared→Prop}
  (h:Q { scope:=scope,locals:=s.heap.objs.size,globals:=globals,cells:=cellsFrom (s.heap.objs.size+1) scope.names cl,qual:=qual,func:=none,code:=env.code,frame:=env.frame,builtins:=env.builtins }
   { s with heap:=pushCells (s.heap.push { cls:=.type "dict",data:=.dict #[] }) scope.names }):wpAny M A (newFunctionEnv scope globals cl [] qual none .none (some env)) Q E s:=by
 simp only [newFunctionEnv,Option.isSome_some,if_true]
 refine wpAny_bind (wpAny_alloc ?_)
 refine wpAny_bind (wpAny_layCells _ (fun name kind cells=>by cases hkc:kind == NameKind.cell <;> simp [hkc]) _ _ _ _ ?_)
 rw [show ({ s with heap:=s.heap.push { cls:=.type "dict",data:=.dict #[] } }:Shared).heap.objs.size=s.heap.objs.size+1 from Heap.size_push ..]
 exact wpAny_bind (wpAny_pure (wpAny_pure h))
def blkC (X:Cx) (N':List Str) (scope:Scope) (cl:List (Str×Addr)) (C:Addr) (s:Shared) (H:Hp) (ex:List Addr) (pins:List (Addr×Obj)):Cx :=
 { blk X N' scope cl C s H ex pins with fn:=fun x=>scope.names.lookup x == some NameKind.cell }
structure BlkScopeC (N:List Str) (sc0 sc:Scope) (N':List Str) (caps:List (Option Nat)):Prop where
 kind:sc.kind=.function
 names:∀ x∈sc.names,x.2=.local→sc.names.lookup x.1=some .local
 cells:∀ x∈sc.names,x.2=.cell→sc.names.lookup x.1=some .cell
 freeL:∀ x∈sc.names,x.2=.free→sc.names.lookup x.1=some .free
 frees:∀ x∈sc.names,x.2=.free→sc0.names.lookup x.1=some .cell∨sc0.names.lookup x.1=some .free
 len:caps.length=N'.length
 cap:((N'.zip caps).all (capOk N sc))=true
 nd:N'.Nodup
structure ClC (X:Cx) (scope:Scope) (cl:List (Str×Addr)) (C:Addr) (h₁:Heap):Prop where
 inj:∀ x y c,cl.lookup x=some c→cl.lookup y=some c→x=y
 split:∀ x c,cl.lookup x=some c→X.env.cells.lookup x=some c∨(C < c∧h₁.IsCell c none)
 frees:∀ x∈scope.names,x.2=.free→∃ c,cl.lookup x.1=some c∧X.env.cells.lookup x.1=some c
 own:∀ x,scope.names.lookup x=some .cell→∃ c,cl.lookup x=some c∧C < c
theorem clc_of {X:Cx} {pins:List (Addr×Obj)} {s:Shared} {σ:St} {H:Hp} {N:List Str} {sc0 scope:Scope} {N':List Str} {caps:List (Option Nat)} {cl:List (Str×Addr)} {P2:Heap} (I:Inv X pins σ H s) (S:BlkScopeC N sc0 scope N' caps)
  (hcl1:∀ x c,cl.lookup x=some c→X.env.cells.lookup x=some c) (hcl2:∀ x∈scope.names,x.2=.free→∃ c,cl.lookup x.1=some c) (hC:s.heap.objs.size≤P2.objs.size) :
  ClC X scope (cellsFrom (P2.objs.size+1) scope.names cl) P2.objs.size (pushCells (P2.push { cls:=.type "dict",data:=.dict #[] }) scope.names):=by
 have ok:=cellsFrom_ok scope.names (P2.push { cls:=.type "dict",data:=.dict #[] }) (P2.objs.size+1) [] ⟨fun _ _ hm=>(nomatch hm),List.Pairwise.nil⟩ (by rw [Heap.size_push];exact Nat.le_refl _)
 rw [Heap.size_push] at ok
 rw [cells_app]
 have oldlt:∀ x c,cl.lookup x=some c→c < P2.objs.size:=fun x c h=>by
  obtain ⟨v,z⟩:=I.cell x c (hcl1 x c h)
  exact Nat.lt_of_lt_of_le z.lt hC
 have newge:∀ x c,(cellsFrom (P2.objs.size+1) scope.names []).lookup x=some c→P2.objs.size < c:=fun x c h=>(ok.empty x c (mem_of_lookup h)).2
 refine ⟨fun x y c hx hy=>?_,fun x c hx=>?_,fun x hx hf=>?_,fun x hx=>?_⟩
 ·rcases lookup_app hx with h1 | ⟨_,h1⟩ <;> rcases lookup_app hy with h2 | ⟨_,h2⟩
  ·exact name_of_addr ok.apart (mem_of_lookup h1) (mem_of_lookup h2)
  ·exact absurd (Nat.lt_trans (newge x c h1) (oldlt y c h2)) (Nat.lt_irrefl _)
  ·exact absurd (Nat.lt_trans (newge y c h2) (oldlt x c h1)) (Nat.lt_irrefl _)
  ·exact I.ok.inj x y c (hcl1 x c h1) (hcl1 y c h2)
 ·rcases lookup_app hx with h1 | ⟨_,h1⟩
  ·exact .inr ⟨newge x c h1,(ok.empty x c (mem_of_lookup h1)).1⟩
  ·exact .inl (hcl1 x c h1)
 ·obtain ⟨c,hc⟩:=hcl2 x hx hf
  refine ⟨c,?_,hcl1 _ c hc⟩
  rw [lookup_app_r,hc]
  cases e:(cellsFrom (P2.objs.size+1) scope.names []).lookup x.1 with
  | none=>rfl
  | some d =>
   have h1:=S.cells _ (cells_mem (mem_of_lookup e)) rfl
   have h2:=S.freeL x hx hf
   rw [show scope.names.lookup x.1=some NameKind.cell from h1] at h2
   cases h2
 ·obtain ⟨c,hc⟩:=Option.isSome_iff_exists.mp (PySem.W.cellsFrom_some scope.names (P2.objs.size+1) [] (.inl hx))
  exact ⟨c,lookup_app_l hc,newge x c hc⟩
section
variable {X:Cx} {pins:List (Addr×Obj)} {σ:St} {H:Hp} {s:Shared} {scope:Scope} {cl:List (Str×Addr)} {C:Addr} {N':List Str} {ex:List Addr} {caps:List (Option Nat)}
theorem blkC_ok {h₁:Heap} (I:Inv X pins σ H s) (S:BlkScopeC X.N X.env.scope scope N' caps) (K:ClC X scope cl C h₁)
  (hC:s.heap.objs.size≤C) (hf:∀ b∈ex,FpOk X pins H b) (hex:∀ b∈ex,b < s.heap.objs.size):(blkC X N' scope cl C s H ex pins).Ok where
 mod:=I.ok.mod
 kind:=S.kind
 glob:=I.ok.glob
 blt:=I.ok.blt
 above:=hC
 inj:=K.inj
 has:=fun x hx=>by
  have hx':(relS scope X.env.scope).names.lookup x=some .cell∨(relS scope X.env.scope).names.lookup x=some .free:=hx
  have fin:∀ k,(k=NameKind.cell∨k=NameKind.free)→(relS scope X.env.scope).names.lookup x=some k→∃ c,cl.lookup x=some c:=fun k hk hl=>by
   obtain ⟨y,hy,e1,e2⟩:=lookup_relS (fun z=>by obtain ⟨n,k⟩:=z;dsimp only;split <;> rfl) hl
   obtain ⟨n,k0⟩:=y
   have e1:n=x:=e1
   subst e1
   have hfree:k0=.free∨k0=.cell:=by
    dsimp only at e2
    split at e2
    ·rename_i hcond
     simp only [Bool.and_eq_true,beq_iff_eq] at hcond
     exact .inl hcond.1.1
    ·have e2:k0=k:=e2
     rcases hk with rfl | rfl
     ·exact .inr e2
     ·exact .inl e2
   rcases hfree with rfl | rfl
   ·obtain ⟨c,hc,_⟩:=K.frees _ hy rfl
    exact ⟨c,hc⟩
   ·obtain ⟨c,hc,_⟩:=K.own n (S.cells _ hy rfl)
    exact ⟨c,hc⟩
  rcases hx' with h | h
  ·exact fin _ (.inl rfl) h
  ·exact fin _ (.inr rfl) h
 cab:=fun x c h hl=>by
  have h:(scope.names.lookup x == some NameKind.cell)=true:=h
  obtain ⟨c',hc',hlt⟩:=K.own x (beq_iff_eq.mp h)
  have hl:cl.lookup x=some c:=hl
  rw [hc'] at hl;cases hl
  exact Nat.le_trans hC (Nat.le_of_lt hlt)
 hd:=I.ok.hd
 frames:=I.ok.frames
 stk:=.inl rfl
 exf:=fun b hb=>⟨Nat.ne_of_lt (Nat.lt_of_lt_of_le (hex b hb) hC),fun x c hc=>by
  rcases K.split x c hc with h | ⟨h,_⟩
  ·exact (hf b hb).2.2.2.2.1 x c h
  ·exact Nat.ne_of_gt (Nat.lt_trans (Nat.lt_of_lt_of_le (hex b hb) hC) h)⟩
 bs:=I.bs
 bsz:=Nat.le_trans I.ok.bsz I.sz
 noex:=fun b o e hb=>by
  rcases (hf b hb).2.2.2.1 with z | z
  ·exact I.ok.noex b o e z
  ·exact absurd (Nat.lt_of_lt_of_le (Heap.lt_size (I.ok.bs b o e).1) z) (Nat.lt_irrefl _)
 exfs:=fun b hb hm=>by
  rcases List.mem_cons.mp (I.stkSub b hm) with z | z
  ·exact (hf b hb).2.1 z
  ·exact (hf b hb).2.2.1 z
 funs:=I.stack
 frf:=I.stkFree
theorem blkC_inv {acc n t':Nat} {h₁:Heap} {m:Str→Option Value} (I:Inv X pins σ H s) (S:BlkScopeC X.N X.env.scope scope N' caps) (K:ClC X scope cl C h₁)
  (hC:s.heap.objs.size≤C) (hf:∀ b∈ex,FpOk X pins H b) (hex:∀ b∈ex,b < s.heap.objs.size) (hns:h₁.Ns C m) (old:∀ b o,s.heap.get? b=some o→h₁.get? b=some o)
  (hacc:h₁.get? acc=some { cls:=.type "list",data:=.seq #[] n }) (hge:s.heap.objs.size≤acc) (hne:acc≠C) (hlt:acc < C) :
  Inv (blkC X N' scope cl C s H ex pins) [] (capσ caps σ) (upd H acc (.lst [])) { s with heap:=h₁,toks:=t' } where
 ok:=blkC_ok I S K hC hf hex
 os:=rfl
 bare:=I.bare
 base:=Un.laid old hge (I.hok.fresh hge)
 loc:=⟨m,hns,fun i x v e1 e2 e3=>by
  obtain ⟨j,hj,hv⟩:=capσ_get e2
  have hz:(x,some j)∈N'.zip caps:=by
   have:(N'.zip caps)[i]?=some (x,some j):=by rw [List.getElem?_zip_eq_some];exact ⟨e1,hj⟩
   exact List.mem_of_getElem? this
  have hk:=List.all_eq_true.mp S.cap _ hz
  simp only [capOk,Bool.and_eq_true,beq_iff_eq] at hk
  obtain ⟨hN,hfr⟩:=hk
  have hmem:(x,NameKind.free)∈scope.names:=by
   have e:∀ {l:List (Str×NameKind)},l.lookup x=some .free→(x,NameKind.free)∈l:=fun {l}=>mem_of_lookup
   exact e hfr
  have h0:=S.frees _ hmem rfl
  obtain ⟨m0,hn0,hl⟩:=I.loc
  obtain ⟨u,r,l⟩:=hl j x v hN hv (by
   rcases h0 with h0 | h0
   ·exact .inr (.inl h0)
   ·exact .inr (.inr h0))
  refine ⟨u,r,?_⟩
  have hcase:∃ c,X.env.cells.lookup x=some c∧s.heap.IsCell c (some u):=by
   rcases l with ⟨hk,_⟩ | ⟨_,c,hc,hcell⟩
   ·have hk':X.env.scope.names.lookup x=some .local:=hk
    rcases h0 with h0 | h0 <;> (rw [h0] at hk';cases hk')
   ·exact ⟨c,hc,hcell⟩
  obtain ⟨c,hc,hcell⟩:=hcase
  obtain ⟨c',hc',ec⟩:=K.frees _ hmem rfl
  have ec:X.env.cells.lookup x=some c':=ec
  rw [hc] at ec
  cases ec
  refine .inr ⟨?_,c,hc',hcell.keeps old⟩
  have e3':Vis (relS scope X.env.scope) x:=e3
  rcases e3' with h | h | h
  ·exfalso
   obtain ⟨y,hy,q1,q2⟩:=lookup_relS (fun z=>by obtain ⟨n,k⟩:=z;dsimp only;split <;> rfl) h
   obtain ⟨nn,k0⟩:=y
   have q1:nn=x:=q1
   subst q1
   dsimp only at q2
   split at q2
   ·cases q2
   ·have q2:k0=.local:=q2
    subst q2
    have:=S.names _ hy rfl
    have this:scope.names.lookup nn=some .local:=this
    rw [hfr] at this;cases this
  ·exact .inl h
  ·exact .inr h⟩
 cell:=fun x c e=>by
  rcases K.split x c e with h | ⟨_,h⟩
  ·obtain ⟨v,z⟩:=I.cell x c h
   exact ⟨v,z.keeps old⟩
  ·exact ⟨_,h⟩
 free:=by
  show upd H acc (.lst []) C=none
  rw [upd_ne (Ne.symm hne)];exact I.hok.fresh hC
 freeC:=fun x c e=>by
  rcases K.split x c e with h | ⟨h,_⟩
  ·obtain ⟨v,z⟩:=I.cell x c h
   have hl:c≠acc:=Nat.ne_of_lt (Nat.lt_of_lt_of_le z.lt hge)
   rw [upd_ne hl];exact I.freeC x c h
  ·rw [upd_ne (Nat.ne_of_gt (Nat.lt_trans hlt h))];exact I.hok.fresh (Nat.le_trans hC (Nat.le_of_lt h))
 pin:=fun p hp=>by
  have hp':p∈X.pn++pins:=by
   have:p∈(X.pn++pins)++[]:=hp
   simpa using this
  obtain ⟨e,n,ne,nf,d⟩:=I.pin p hp'
  have hlt:=Heap.lt_size e
  refine ⟨old _ _ e,?_,Nat.ne_of_lt (Nat.lt_of_lt_of_le hlt hC),fun z=>?_,d⟩
  ·rw [upd_ne (Nat.ne_of_lt (Nat.lt_of_lt_of_le hlt hge))];exact n
  ·rcases List.mem_cons.mp (I.stkSub _ z) with z | z
   ·exact ne z
   ·exact nf z
 hok:=I.hok.laid old hge ⟨Nat.zero_le _,[],n,.nil,hacc⟩
 len:=by
  show (capσ caps σ).length=N'.length
  unfold capσ;rw [List.length_map];exact S.len
theorem blkC_back {H':Hp} {s':Shared} {σ':St} {pins':List (Addr×Obj)} (I:Inv X pins σ H s) (J:Inv (blkC X N' scope cl C s H ex pins) pins' σ' H' s') (hf:∀ b∈ex,FpOk X pins H b):Inv X pins σ H' s' :=
 I.call' (ch:=ex) J.os J.base J.hok J.bare fun b hb=>by
  obtain ⟨_,f1,_,f3,f4,f5⟩:=hf b hb
  exact ⟨f3,f1,f4,f5⟩
end
section
variable {X:Cx} {scope:Scope} {N':List Str} {caps:List (Option Nat)} {elt iter tg:Expr} {pos:Pos} {wi:TI} {g:TG} {te:TE}
theorem comp_coreC {pins:List (Addr×Obj)} {s:Shared} {σ:St} {H:Hp} {cl:List (Str×Addr)} {Q:VK} {E:Value→Shared→Prop} {RR:Value→Addr→Result→Shared→Prop} {it:Addr} {fp:List Addr} {tn:Nat→Heap→Prop} {J:It} (hc:X.calm=true) (S:BlkScopeC X.N X.env.scope scope N' caps)
  (hg:∀ cl C s H ex pins,PG (blkC X N' scope cl C s H ex pins) tg g) (he:∀ cl C s H ex pins,PE (blkC X N' scope cl C s H ex pins) elt te)
  (hcl1:∀ x c,cl.lookup x=some c→X.env.cells.lookup x=some c) (hcl2:∀ x∈scope.names,x.2=.free→∃ c,cl.lookup x.1=some c)
  (I:Inv X pins σ H s) (T:Turn X.prog X.w X.K tg J fp it tn) (st:tn 0 s.heap) (f2:∀ b∈fp,FpOk X pins H b) (R:CompR caps g te σ Q J H)
  (hRR:∀ acc C H' s' m,s.heap.objs.size≤C→s'.heap.Ns C m→Inv X pins σ H' s'→H' C=none→Q (.ref acc) H'→RR (.ref acc) C (.ok .next) s') :
  wpAny (model X.prog X.w) X.A (newList []) (fun acc s₃=>wpAny (model X.prog X.w) X.A (newFunctionEnv scope X.env.globals cl [] X.env.qual none .none (some X.env)) (fun cenv s₄ =>
   codeAny (model X.prog X.w) X.A (.compStart (.ListComp elt [⟨tg,iter,[],0⟩] scope pos) 0 (.ref it) acc { cenv with scope:=relabel scope X.env }) (RR acc cenv.locals) s₄) E s₃) E s:=by
 refine wpAny_newObj_type (newEnv_some ?_)
 dsimp only
 generalize hP2:s.heap.push { cls:=.type "list",dict:=none,data:=.seq ([]:List Value).toArray }=P2
 have hC:P2.objs.size=s.heap.objs.size+1:=by rw [← hP2,Heap.size_push]
 have hDC:s.heap.objs.size≠P2.objs.size:=by rw [hC];exact Nat.ne_of_lt (Nat.lt_succ_self _)
 have hCle:s.heap.objs.size≤P2.objs.size:=by rw [hC];exact Nat.le_succ _
 have K:=clc_of I S hcl1 hcl2 hCle
 have hns₁:(pushCells (P2.push { cls:=.type "dict",data:=.dict #[] }) scope.names).Ns P2.objs.size (fun _=>none):=(Heap.Ns.new P2 (.type "dict")).keeps (pushCells_keeps _ _)
 have old:∀ b o,s.heap.get? b=some o→(pushCells (P2.push { cls:=.type "dict",data:=.dict #[] }) scope.names).get? b=some o:=fun b o e=>pushCells_keeps _ _ _ _ (Heap.get?_push_of_some _ (hP2 ▸ Heap.get?_push_of_some _ e))
 have hacc:(pushCells (P2.push { cls:=.type "dict",data:=.dict #[] }) scope.names).get? s.heap.objs.size=some { cls:=.type "list",data:=.seq #[] }:=pushCells_keeps _ _ _ _ (Heap.get?_push_of_some _ (hP2 ▸ Heap.get?_push_size _ rfl))
 generalize hh₁:pushCells (P2.push { cls:=.type "dict",data:=.dict #[] }) scope.names=h₁ at K hns₁ old hacc ⊢
 generalize hcl':cellsFrom (P2.objs.size+1) scope.names cl=cl' at K ⊢
 have hex:∀ b∈fp,b < s.heap.objs.size:=fun b hb=>by obtain ⟨o,e,_⟩:=T.obj 0 _ st b hb;exact Heap.lt_size e
 obtain ⟨W,⟨m0,w0⟩,turn⟩:=R s.heap.objs.size (I.hok.fresh (Nat.le_refl _))
 have I3:∀ t',Inv (blkC X N' scope cl' P2.objs.size s H fp pins) [] (capσ caps σ) (upd H s.heap.objs.size (.lst [])) { s with heap:=h₁,toks:=t' }:=fun t'=>blkC_inv (t':=t') I S K hCle f2 hex hns₁ old hacc (Nat.le_refl _) hDC (by rw [hC];exact Nat.lt_succ_self _)
 have stat:∀ {H':Hp},(∀ b∈fp,H' b=none)→∀ b∈fp,FpOk (blkC X N' scope cl' P2.objs.size s H fp pins) [] H' b:=fun hn b hb=>by
  obtain ⟨_,q1,q2,q3,q4,q5⟩:=f2 b hb
  refine ⟨hn b hb,Nat.ne_of_lt (Nat.lt_of_lt_of_le (hex b hb) hCle),fun z=>?_,.inl hb,fun x c e=>(by
   rcases K.split x c e with h | ⟨h,_⟩
   ·exact q4 x c h
   ·exact Nat.ne_of_gt (Nat.lt_trans (Nat.lt_of_lt_of_le (hex b hb) hCle) h)),fun p hp=>q5 p ?_⟩
  ·rcases List.mem_cons.mp (I.stkSub b z) with z | z
   ·exact q1 z
   ·exact q2 z
  ·have:p∈(X.pn++pins)++[]:=hp
   simpa using this
 have loop:∀ s₃:Shared,s₃={ s with heap:=h₁ } →
   codeAny (model X.prog X.w) X.A (.compLoop (.ListComp elt [⟨tg,iter,[],0⟩] scope pos) 0 (.ref it) (.ref s.heap.objs.size) (compEnvC scope cl' P2.objs.size X.env)) (RR (.ref s.heap.objs.size) P2.objs.size) s₃:=by
  rintro s₃ rfl
  refine codeAny_compLoop_gen (fun n s'=>∃ i ys H',Inv (blkC X N' scope cl' P2.objs.size s H fp pins) [] (capσ caps σ) H' s'∧tn i s'.heap∧(∀ b∈fp,H' b=none)∧W i n ys H') ?_ m0
   ⟨0,[],_,I3 _,T.keep 0 _ _ st (fun b _ o e=>old b o e),fun b hb=>by rw [upd_ne (Nat.ne_of_lt (hex b hb))];exact (f2 b hb).1,w0⟩
  rintro n s4 ⟨i,ys,H4,I4,st4,fr4,w4⟩
  rcases turn i n ys H4 w4 with ⟨stop,q⟩ | ⟨go,N,hN,step⟩
  ·refine thn (T.done (blkC X N' scope cl' P2.objs.size s H fp pins) rfl rfl rfl hc i [] s4 _ H4 _ I4 (stat fr4) st4 stop) fun r s5 ⟨hr,I5⟩=>?_
   subst hr
   obtain ⟨m,hm,_⟩:=id I5.loc
   exact hRR _ _ H4 s5 m hCle hm (blkC_back I I5 f2) I5.free q
  ·refine thn (T.item (blkC X N' scope cl' P2.objs.size s H fp pins) rfl rfl rfl hc i [] s4 _ H4 _ I4 (stat fr4) st4 go) fun r s5 ⟨u,hr,h5⟩=>?_
   subst hr
   refine thn h5 fun _ s6 ⟨x,H6,I6,r6,y6,st6,fr6⟩=>?_
   have I6':=I6.pinned (stat fr6) (T.obj _ _ st6)
   refine thn (hg cl' _ s H fp pins _ s6 _ H6 x u _ I6' r6 (step x H6 y6)) fun _ s7 ⟨σ7,H7,I7,wk7,q7⟩=>?_
   refine thn (he cl' _ s H fp pins _ s7 σ7 H7 _ I7 q7) fun yv s8 ⟨y,H8,I8,r8,ha8,hsz8,w8⟩=>?_
   refine thn (mt_append (X:=blkC X N' scope cl' P2.objs.size s H fp pins) _ s8 σ7 H8 (.ref s.heap.objs.size) [y] (.ref s.heap.objs.size) [yv] (fun _ H9=>H9=upd H8 s.heap.objs.size (.lst (ys++[y]))) I8 rfl (.cons r8 .nil) ⟨_,ys,y,rfl,rfl,ha8,hsz8,rfl⟩) fun _ s9 ⟨_,H9,I9,_,e9⟩=>?_
   subst e9
   obtain ⟨m',hm',w8⟩:=hN _ _ w8
   refine ⟨m',hm',i+1,ys++[y],_,I9.unpinned.weak wk7.1 wk7.2,T.keep _ _ _ st6 fun b hb o e=>(I9.pin (b,o) (List.mem_append_right _ (List.mem_append_right _ (mem_pinsAt hb e)))).1,fun b hb=>?_,w8⟩
   obtain ⟨o,e,d⟩:=T.obj _ _ st6 b hb
   exact (I9.pin (b,o) (List.mem_append_right _ (List.mem_append_right _ (mem_pinsAt hb e)))).2.1
 exact codeAny_compStart_list (loop _ rfl) (T.self _ 0 _ _ _ (T.keep 0 _ _ st (fun b _ o e=>old b o e)) (loop _ rfl))
theorem closC_of {pins:List (Addr×Obj)} {s:Shared} {σ:St} {H:Hp} (I:Inv X pins σ H s) (S:BlkScopeC X.N X.env.scope scope N' caps) :
  ∃ cl,closureFor scope X.env=pure cl∧(∀ x c,cl.lookup x=some c→X.env.cells.lookup x=some c)∧∀ x∈scope.names,x.2=.free→∃ c,cl.lookup x.1=some c :=
 closure_ok fun x hx hf=>I.ok.has x.1 (S.frees x hx hf)
theorem ps_setCC {i:Nat} {x:Str} {pos' spos:Pos} {N:List Str} {sc0:Scope} (S:BlkScopeC N sc0 scope N' caps) (hc:X.calm=true) (hN:X.N.Nodup) (hi':X.N[i]?=some x) (hx:Loc X.env.scope x) (hi:PI X tg iter wi)
  (hg:∀ cl C s H ex pins,PG (blkC X N' scope cl C s H ex pins) tg g) (he:∀ cl C s H ex pins,PE (blkC X N' scope cl C s H ex pins) elt te)
  (hsw:swapsWith (.ListComp elt [⟨tg,iter,[],0⟩] scope pos) (some (.Name x pos')) spos.line X.env=pure true:=by rfl)
  (hf:X.fn x=true∨X.env.scope.names.lookup x=some .local:=by first | exact .inl rfl | exact .inr rfl | assumption)
  (hs:∀ x,foldedSetIterable iter X.env x=pure x:=by intro _;rfl) (hN0:X.N=N:=by rfl) (h00:X.env.scope=sc0:=by rfl):PS X (.Assign [.Name x pos'] (.ListComp elt [⟨tg,iter,[],0⟩] scope pos) spos) (tAsg (tComp wi g te caps) (gName i)):=by
 subst hN0 h00
 intro pins s σ H D I h
 obtain ⟨cl,hclos,hcl1,hcl2⟩:=closC_of I S
 rw [exec_Assign_Name_used _ _ _ _ hsw]
 refine wpAny_bind (wpAny_standAt (wpAny_bind ?_))
 show wpAny _ X.A (do let _ ← comprehension (.ListComp elt [⟨tg,iter,[],0⟩] scope pos) scope X.env _ (newList []) false (eval iter X.env) (some (assign (.Name x pos') X.env))) _ _ s
 refine wpAny_bind (wpAny_mono (wpAny_comprehension_free (use:=some (assign (.Name x pos') X.env)) (Q:=fun _ s'=>SP X pins D .next s') rfl hs hclos S.kind S.names
  (thn (hi pins s σ H _ I h) fun xv s1 h1=>thn h1 fun itv s2 h2=>?_)) (fun _ s' hq=>wpAny_pure (wpAny_pure hq)) fun _ _ e=>e)
 obtain ⟨it,fp,tn,J,H2,e,I2,T,st2,f2,R⟩:=h2
 subst e
 refine comp_coreC (Q:=fun x H1=>gName i x σ H1 D.nx) (RR:=fun acc C=>compPost (model X.prog X.w) X.A X.xe (some (assign (.Name x pos') X.env)) (fun _ s'=>SP X pins D .next s') acc C) hc S hg he hcl1 hcl2 I2 T st2 f2 R ?_
 intro acc C H' s' m hC hm J' hn q
 obtain ⟨o,es,ep,ho,hd,hr⟩:=id hm
 have hCL:C≠X.env.locals:=Nat.ne_of_gt (Nat.lt_of_lt_of_le I2.lt hC)
 have JP:Inv X (pins++[(C,o)]) σ H' s':=J'.pins_of fun p hp=>by
  rcases List.mem_append.mp hp with hp | hp
  ·exact J'.pin p (List.mem_append_right _ hp)
  ·have e:=List.mem_singleton.mp hp
   subst e
   exact ⟨ho,hn,hCL,I2.nofs hC,fun v z=>by have z':o.data=.cell v:=z;rw [hd] at z';cases z'⟩
 show wpAny _ X.A (assign (.Name x pos') X.env (.ref acc)) _ _ s'
 refine thn (pg_name hN hi' hx hf (pins++[(C,o)]) s' σ H' (.ref acc) (.ref acc) D.nx JP rfl q) fun _ s'' ⟨σ'',H'',J'',q''⟩=>?_
 have hp:=J''.pin (C,o) (List.mem_append_right _ (List.mem_append_right _ (List.mem_singleton.mpr rfl)))
 exact ⟨m,⟨o,es,ep,hp.1,hd,hr⟩,fun h' hs'=>⟨σ'',H'',I2.letC hC J''.unpinned hp.2.1 hs',q''⟩⟩
end
end L2
namespace L2
open PySem PySem.Spec PyProof.Rows
structure PSsO (X:Cx) (b:List Stmt) (t:TS):Prop where
 out:PSs X b t
theorem exO {X:Cx} {b:List Stmt} {t:TS} {R:TS→Prop} (h:PSsO X b t) (r:R t):∃ t,PSs X b t∧R t:=⟨t,h.out,r⟩
end L2
namespace My
open PySem L2
end My
namespace L2
open PySem PySem.Spec PyProof.Rows
def tDispT1 (tk tv:TE):TE:=fun σ H Q=>∀ p,H p=none→tk σ (upd H p (.dT [])) fun x H1=>tv σ H1 fun y H2=>∃ b ks,x=.ref b∧H2 b=some (.tup (ks.map kV))∧H2 p=some (.dT [])∧Q (.ref p) (upd H2 p (.dT [(ks,y)]))
theorem pe_dispT1 {X:Cx} {pos:Pos} {k v:Expr} {tk tv:TE} (hu:X.A.units+1 < cLine) (hk:PE X k tk) (hv:PE X v tv):PE X (.Dict [some k] [v] pos) (tDispT1 tk tv):=by
 intro pins s σ H Q I q
 rw [arm_eval_Dict,zip_pairTrees [some k] [v] X.env pos rfl rfl,dictDisplay_pairs _ (by simp [pairTrees]) (by simp [pairTrees])]
 have hn:=I.hok.fresh (Nat.le_refl s.heap.objs.size)
 have I1:=I.laid (a:=s.heap.objs.size) (o:=.dT []) (h':=s.heap.push { cls:=.type "dict",data:=.dict #[] }) (t':=s.toks) (fun _ _ q=>Heap.get?_push_of_some _ q) (Nat.le_refl _) (dt_empty s.heap I.big)
 refine wpAny_bind (wpAny_standAt (wpAny_bind ?_))
 unfold subDict
 refine wpAny_bind (wpAny_alloc ?_)
 refine wpAny_bind (wpAny_holding ?_)
 rw [if_pos (by simp [pairTrees])]
 refine wpAny_bind (evalPairs_cons (thn (hk pins _ σ _ _ I1 (q _ hn)) fun kv s1 ⟨x,H1,I2,rx,q1⟩=>?_))
 refine wpAny_bind (thn (hv pins s1 σ H1 _ I2 q1) fun vv s2 ⟨y,H2,I3,ry,b,ks,ex,hb,hp,q2⟩=>wpAny_bind (wpAny_standAt (wpAny_pure (evalPairs_nil ?_))))
 subst ex
 cases (show kv=Value.ref b from rx)
 obtain ⟨z,hd,xs,rel,dd⟩:=dt_of I3.hok hp
 cases rel
 refine wpAny_holding (wpAny_bind ?_)
 rw [List.forIn_cons]
 refine wpAny_bind (wpAny_bind (wpAny_dictSet_heap (hsz:=Nat.zero_le _) ?room (key_of I3.hok hb) dd fun h' dd' hs=>?fin))
 case fin =>
  refine wpAny_pure ?_
  dsimp only
  rw [List.forIn_nil]
  refine wpAny_pure (wpAny_pure (wpAny_pure (wpAny_pure ?_)))
  obtain ⟨q',es,ep,hq,h2,h3,h4,_,h5⟩:=dd'
  have hI:=d_write (t':=s2.toks+(tupleKind (mixKind X.prog X.w)).draws ks) I3 (by rw [hp];exact True.intro) hs ⟨q',hq⟩ (ob:=.dT [(ks,y)]) ⟨(show 1≤sizeLine by decide),hd,[(ks,b,vv)],.cons ⟨rfl,by rw [upd_ne (ne_of hb hp (fun z=>nomatch z))];exact hb,ry⟩ .nil,q',es,ep,hq,h2,h3,h4,h5⟩
  exact ⟨.ref s.heap.objs.size,_,hI,rfl,q2⟩
 case room=>exact (show X.A.units < cLine by omega)
theorem pssO_consT {X:Cx} {i:Nat} {x:Str} {k v:Expr} {pos pos' spos:Pos} {tk tv:TE} {rest:List Stmt} {u:TS} (hu:X.A.units+1 < cLine) (hN:X.N.Nodup) (hi:X.N[i]?=some x) (hx:Loc X.env.scope x) (hk:PE X k tk) (hv:PE X v tv) (h2:PSs X rest u)
  (hf:X.fn x=true∨X.env.scope.names.lookup x=some .local:=by first | exact .inl rfl | exact .inr rfl | assumption)
  (hsw:swapsWith (.Dict [some k] [v] pos) (some (.Name x pos')) spos.line X.env=pure false:=by rfl) :
  PSsO X (.Assign [.Name x pos'] (.Dict [some k] [v] pos) spos :: rest) (tSeq (tAsg (tDispT1 tk tv) (gName i)) u) :=
 ⟨pss_cons (ps_set hN hi hx (pe_dispT1 hu hk hv)) h2⟩
section
variable {σ:St} {H:Hp} {Q:VK} {tk tv:TE}
theorem r_dispT (h:∀ p,H p=none→tk σ (upd H p (.dT [])) fun x H1=>tv σ H1 fun y H2=>∃ b ks,x=.ref b∧H2 b=some (.tup (ks.map kV))∧H2 p=some (.dT [])∧Q (.ref p) (upd H2 p (.dT [(ks,y)]))):tDispT1 tk tv σ H Q:=h
end
end L2
namespace L2
open PySem PySem.Spec PyProof.Rows
def jBl (te:TE) (t:St→Hp→(Hp→Prop)→Prop):St→Hp→(Hp→Prop)→Prop:=fun σ H Q=>te σ H fun x H1=>∃ b:Bool,x=.bl b∧t σ H1 Q
theorem pj_bl {X:Cx} {e:Expr} {es:List Expr} {te:TE} {t:St→Hp→(Hp→Prop)→Prop} {pos:Pos} (he:PE X e te) (hr:PJ X es t):PJ X (.FormattedValue e (-1) none pos :: es) (jBl te t):=by
 intro out pins s σ H Q hz I h
 refine joinParts_cons (FormattedValue_plain (thn (he pins s σ H _ I h) fun v s1 hh=>?_))
 obtain ⟨x,H1,I1,r,b,rfl,h1⟩:=hh
 have hv:v=Value.bool b:=r
 subst hv
 rw [List.length_cons] at hz
 refine wpAny_formatField_bool ?_
 have h3:((if b then "True" else "False":Str)).length≤5:=by cases b <;> decide +kernel
 have hl:(out++(if b then "True" else "False":Str)).length=out.length+((if b then "True" else "False":Str)).length:=strLen_append ..
 exact ⟨by rw [hl];omega,hr _ pins _ σ H1 Q (by rw [hl];omega) ((I1.tok _).tok _) h1⟩
theorem r_jbl {σ:St} {H:Hp} {te:TE} {t:St→Hp→(Hp→Prop)→Prop} {R:Hp→Prop} (h:te σ H fun x H1=>∃ b:Bool,x=.bl b∧t σ H1 R):jBl te t σ H R:=h
section
variable {σ:St} {H:Hp} {Q:VK} {t td ty tl:TE} {P:Program} {w:World}
theorem r_dget1 (h:td σ H fun x H1=>∃ a,x=.ref a∧IsD H1 a∧ty σ H1 fun y H2=>∃ o,DGet H2 a y o∧Q (o.getD .non) H2):tDGet1 td ty σ H Q:=h
theorem r_dnewT (h:∀ p,H p=none→Q (.ref p) (upd H p (.dT []))):tDNewT σ H Q:=h
end
end L2
namespace My
end My
namespace PySem
open PySem.Spec PyProof.Rows
end PySem
namespace L2
open PySem PySem.Spec PyProof.Rows
end L2
namespace L2
open PySem PySem.Spec PyProof.Rows
def PassAt (CX:CXT) (X:Cx) (σ:St) (E:XK):Prop:=∀ (pins:List (Addr×Obj)) (H:Hp) (s:Shared) (e:Value) (s':Shared),Inv X pins σ H s→CX X.stack H s E e s'→X.xe e s'
def PEA (X:Cx) (σ:St) (e:Expr) (t:TE):Prop:=∀ (pins:List (Addr×Obj)) (s:Shared) (H:Hp) (Q:VK),Inv X pins σ H s→t σ H Q→wpAny (model X.prog X.w) X.A (eval e X.env) (EP X pins σ Q) X.xe s
def PSsA (X:Cx) (σ:St) (st:List Stmt) (t:TS):Prop:=∀ (pins:List (Addr×Obj)) (s:Shared) (H:Hp) (D:Ends),Inv X pins σ H s→t D σ H→wpAny (model X.prog X.w) X.A (execs st X.env) (SP X pins D) X.xe s
section
variable {X:Cx} {CX:CXT} {k:Nat} {f C:Addr} {fd:FuncData} {ps:List Str} {sp:Sp} {dvs:List V} {ds:List Value} {E:XK} {x m:Str} {p pos apos:Pos} {e o:Expr} {es:List Expr} {ta:TE} {t:TA}
theorem run_fnA {pins:List (Addr×Obj)} {σ:St} {H:Hp} {s:Shared} {Q:VK} {us:List Value} {vs:List V} (F:FnOk X.prog X.w X.K X.mg X.base CX k f fd ps sp) (hr:Room k X.A) (hb:Binds X.K fd ps ds) (hd:Vals dvs ds) (hx:PassAt CX X σ E)
  (I:Inv X pins σ H s) (r:Vals vs us) (h:sp (vs++dvs) H Q E):wpAny (model X.prog X.w) X.A (call (.ref f) us) (EP X pins σ Q) X.xe s:=by
 have r2:Vals (vs++dvs) (us++ds):=r.append hd
 have hl:(us++ds).length=ps.length:=by rw [← r2.length];exact F.len _ _ _ _ h
 refine wpAny_call (codeAny_mono (F.run X.A X.stack s H ⟨us,[]⟩ (us++ds) (vs++dvs) Q E hr I.env0 (hb s us I.kIn hl) r2 h) fun r s' hq=>?_)
 cases r with
 | error e=>exact hx pins H s e s' I hq
 | ok fl =>
  cases fl with
  | ret u=>exact I.after hq
  | next=>exact False.elim hq
  | brk=>exact False.elim hq
  | cont=>exact False.elim hq
end
end L2
namespace L2
open PySem PySem.Spec PyProof.Rows
open PySem.AutoSeq1 (wpAny_loadPart')
open PySem.MeetsSeq PySem.MeetsSeq2 PySem.MeetsSeq3 PySem.SeqAt
section
variable {X:Cx} (K:PySem.W.Frag)
theorem call_sumIK (hc:X.calm=true) (hK:X.K=K:=by rfl):CallR X (.builtin "sum") (fun xs H Q=>∃ (a:Addr) (ns:List Int),xs=[.ref a]∧SqL K H a (ns.map V.int)∧Q (.int ns.sum) H):=by
 subst hK
 intro pins s σ H xs us Q I r h
 obtain ⟨a,ns,rfl,ha,q⟩:=h
 obtain ⟨u,rfl,ru⟩:=vals1 r
 cases ru
 obtain ⟨its,rv,p,_⟩:=I.list ha
 have hi:=intsAre_of rv
 obtain ⟨ys,hx⟩:=hi.allInts.items
 refine sum_intListG (I.ok.hd hc) (by rw [← hx];exact p.isList) fun h' tk t' hk=>?_
 have e:preSum (numAt ys) ys.size=ns.sum:=by
  rw [preSum_eq,List.take_of_length_le (by simp),← nums_intItems,← hx,show its.toArray.toList=its from rfl,hi.numsOf]
 exact ⟨.int ns.sum,H,I.kept (t':=tk) hk,⟨t',by rw [e]⟩,q⟩
end
theorem r_ifE {σ:St} {H:Hp} {Q:VK} {tA:TT} {ta tb:TE} (h:tA σ H fun d H1=>if d=true then ta σ H1 Q else tb σ H1 Q):tIf tA ta tb σ H Q:=h
end L2
namespace My
open PySem L2
def cnt (rss:List (List Int)) (ls:List Bool):Nat→List Int
 | 0=>ls.map fun b=>if b=true then 1 else 0
 | n+1=>rss.map fun row=>(row.map fun way=>(cnt rss ls n).getD way.toNat 0).sum
def cntAt (rss:List (List Int)) (ls:List Bool) (n:Nat) (r:Int):Int:=(cnt rss ls n).getD r.toNat 0
end My
namespace My
open PySem L2
end My
namespace My
open PySem L2
end My
namespace L2
open PySem PySem.Spec PyProof.Rows
inductive PHs (X:Cx) (n:Str):List ExceptHandler→(Addr→TS)→Prop where
 | nil:PHs X n [] (fun _ _ _ _=>False)
 | cons {x:Str} {np:Pos} {C1:Addr} {b₀:Stmt} {suite:List Stmt} {hpos:Pos} {ts:TS} {rest:List ExceptHandler} {th:Addr→TS}:Gl X x→X.mg x=some (.ref C1)→(x == ("__debug__":Str))=false→(∀ (ea:Addr) (pn:List (Addr×Obj)),PSs (suiteX X ea pn) (b₀ :: suite) ts)→PHs X n rest th →
   PHs X n (.ExceptHandler (some (.Name x np)) (some n) (b₀ :: suite) hpos :: rest) (fun C D σ H=>(PySem.W.exmOne X.K (.ref C) (.ref C1)=some true∧ts D σ H)∨(PySem.W.exmOne X.K (.ref C) (.ref C1)=some false∧th C D σ H))
theorem exm_of {K:PySem.W.Frag} {C C1:Addr} {b:Bool} (h1:PySem.W.mroIn K C1 (.type "BaseException")=some true) (c1:PySem.W.isClsIn K C1=true) (c2:PySem.W.typeIn K (.ref C1)=some (.type "type")) (m:PySem.W.mroIn K C (.ref C1)=some b):PySem.W.exmOne K (.ref C) (.ref C1)=some b:=by
 unfold PySem.W.exmOne PySem.W.kitCls
 have z:PySem.W.subIn K (.ref C1) (.type "BaseException")=some true:=h1
 rw [z,if_pos (by decide +kernel)]
 dsimp only
 have c1:(PySem.W.clsIn K C1).isSome=true:=c1
 rw [c1,c2,if_pos (by decide +kernel)]
 exact m
end L2
namespace L2
open PySem PySem.Spec PyProof.Rows
end L2
namespace My
open PySem L2
end My
namespace L2
open PySem PySem.Spec PyProof.Rows
end L2
namespace My
open PySem L2
theorem walkI_app (rss:List (List Int)) (q:Int) (u v:List Int):walkI rss q (u++v)=walkI rss (walkI rss q u) v:=by
 unfold walkI;rw [List.foldl_append]
end My
namespace L2
open PySem PySem.Spec PyProof.Rows
def rSplit:V→List V→Hp→VK→Prop:=fun x vs H Q=>∃ z y,x=.str z∧vs=[.str y]∧(y.length == 0)=false∧z.length≤100000∧(Txt.split z y).length≤100000∧∀ p,H p=none→Q (.ref p) (upd H p (.lst ((Txt.split z y).map V.str)))
def rStarts:V→List V→Hp→VK→Prop:=fun x vs H Q=>∃ z y,x=.str z∧vs=[.str y]∧Q (.bl (Txt.startswith z y)) H
section
variable {X:Cx}
theorem mt_starts:MtR X "str.startswith" rStarts:=by
 intro pins s σ H x vs v us Q I rx rv h
 obtain ⟨z,y,rfl,rfl,q⟩:=h
 obtain ⟨t,rfl⟩:=rx
 obtain ⟨u,rfl,ru⟩:=vals1 rv
 obtain ⟨t2,rfl⟩:=ru
 exact SC.startswith ⟨.bl _,H,I,rfl,q⟩
theorem vals_strs:∀ (l:List Str) (n:Nat),Vals (l.map V.str) (strsFrom n l)
 | [],n=>.nil
 | y :: l,n=>.cons ⟨n,rfl⟩ (vals_strs l (n+1))
theorem split_pb {x y:Str} (h1:¬ (decide (x.length < y.length) || decide (Builtin.Str.strKind x < Builtin.Str.strKind y))=true) (h2:¬ (Builtin.Str.occurrences x y 0 x.length (x.length+1)).isEmpty=true) :
  Txt.split x y=Builtin.Str.partsBetween x (Builtin.Str.occurrences x y 0 x.length (x.length+1)) y.length:=by
 unfold Txt.split
 rw [if_neg h1,if_neg h2]
theorem mt_split:MtR X "str.split" rSplit:=by
 intro pins s σ H x vs v us Q I rx rv h
 obtain ⟨z,y,rfl,rfl,hy,hz,hl,q⟩:=h
 obtain ⟨t,rfl⟩:=rx
 obtain ⟨u,rfl,ru⟩:=vals1 rv
 obtain ⟨t2,rfl⟩:=ru
 have fin:∀ (k:Nat) (its:List Value) (ys:List Str),Txt.split z y=ys→Vals (ys.map V.str) its→(EP X pins σ Q) (.ref s.heap.objs.size) { s with heap:=s.heap.push { cls:=.type "list",data:=.seq its.toArray },toks:=k }:=by
  intro k its ys e hv
  subst e
  refine ⟨.ref s.heap.objs.size,_,I.laid (t':=k) (o:=.lst ((Txt.split z y).map V.str)) (fun b ob q=>Heap.get?_push_of_some _ q) (Nat.le_refl _) ?_,rfl,q _ (I.hok.fresh (Nat.le_refl _))⟩
  exact ⟨by rw [List.length_map];exact Nat.le_trans hl (by decide),_,0,hv,Heap.get?_push_size _ rfl⟩
 by_cases h1:(decide (z.length < y.length) || decide (Builtin.Str.strKind z < Builtin.Str.strKind y))=true
 ·refine call_meets PySem.F.slot_str_split (typeIs_str s z t) PySem.F.entry_str_split (PySem.F.args_str_split_2 ..) (meets_str_split_cannot_occur z y t t2 h1) ?_
  exact fin s.toks [.str z t] [z] (by unfold Txt.split;rw [if_pos h1]) (.cons ⟨_,rfl⟩ .nil)
 ·by_cases h2:(Builtin.Str.occurrences z y 0 z.length (z.length+1)).isEmpty=true
  ·refine call_meets PySem.F.slot_str_split (typeIs_str s z t) PySem.F.entry_str_split (PySem.F.args_str_split_2 ..) (meets_str_split_not_found z y t t2 (by simpa using h1) hy h2) ?_
   exact fin s.toks [.str z t] [z] (by unfold Txt.split;rw [if_neg h1,if_pos h2]) (.cons ⟨_,rfl⟩ .nil)
  ·have e:=split_pb h1 h2
   refine call_meets PySem.F.slot_str_split (typeIs_str s z t) PySem.F.entry_str_split (PySem.F.args_str_split_2 ..) (meets_str_split_sep z y t t2 (by simpa using h1) hy (by simpa using h2) (Nat.le_trans hz (by decide)) (by rw [← e];exact Nat.le_trans hl (by decide))) ?_
   exact fin _ _ _ e (vals_strs _ _)
theorem Inv.turnedL {pins:List (Addr×Obj)} {σ:St} {H:Hp} {s:Shared} {h':Heap} {t':Nat} {ch:List Addr} (I:Inv X pins σ H s) (hf:∀ b∈ch,FpOk X pins H b) (k:∀ b o,b∉ch→s.heap.get? b=some o→h'.get? b=some o):Inv X pins σ H { s with heap:=h',toks:=t' }:=by
 have nit:∀ b u,H b=some u→b∉ch:=fun b u e z=>by rw [(hf b z).1] at e;cases e
 have hL:X.env.locals∉ch:=fun z=>(hf _ z).2.1 rfl
 refine I.step (g':=s.gens) (d':=s.drawn) (ch:=ch) (fun b hb=>?_) (fun b o _ _ hc e _=>k b o hc e) (fun b o _ _ hc e _=>⟨o.slots,k b o hc e⟩) (fun _ _ _ _ n=>n)
  (fun b o hc e=>⟨o,k b o hc e⟩) (fun _ _ e=>e) (fun _ _ _ e=>e) (fun b ps e=>⟨#[],by rw [e];simp⟩) (fun m hm=>?_) (fun b u e=>?_) I.bare
 ·obtain ⟨_,f1,_,f3,f4,f5⟩:=hf b hb
  exact ⟨f3,f1,f4,f5⟩
 ·obtain ⟨o,es,ep,ho,r⟩:=hm
  exact ⟨o,es,ep,k _ o hL ho,r⟩
 ·refine (I.hok b u e).stay (fun c v hc q=>k c v ?_ q) (fun _ q=>q) fun _ _ q=>q
  rcases hc with z | z
  ·rw [z];exact nit b u e
  ·exact nit c _ z
end
def It2 (K:PySem.W.Frag) (a b:Addr):It :=
  ⟨fun i H=>∃ xs ys x y,SqL K H a xs∧SqL K H b ys∧xs[i]?=some x∧ys[i]?=some y,
   fun i H x H'=>∃ t u v,x=.ref t∧H t=none∧H'=upd H t (.tup [u,v])∧(∀ xs,SqL K H a xs→xs[i]?=some u)∧∀ ys,SqL K H b ys→ys[i]?=some v,
   fun i H=>∃ xs ys,SqL K H a xs∧SqL K H b ys∧xs.length≤i⟩
theorem turn_zip {P:Program} {w:World} {K:PySem.W.Frag} {es:List Expr} {kk:Nat} {pos:Pos} (z TI TO i1 i2 a b:Addr) (ap:ZipApart z TI TO i1 i2 a b) :
  Turn P w K (.Tuple es kk pos) (It2 K a b) [z,TI,TO,i1,i2] z (fun i h=>IsZip h z TI TO .none∧IsPair h TI (.ref i1) (.ref i2)∧(∃ p q,IsPair h TO p q)∧h.IsListIter i1 a i∧h.IsListIter i2 b i) where
 mem:=by simp
 obj:=fun i h st c hc=>by
  obtain ⟨h1,h2,⟨p,q,h3⟩,h4,h5⟩:=st
  simp only [List.mem_cons,List.not_mem_nil,or_false] at hc
  rcases hc with rfl | rfl | rfl | rfl | rfl
  ·exact ⟨_,h1,fun v z=>by have z':Data.fields _=Data.cell v:=z;cases z'⟩
  ·exact ⟨_,h2,fun v z=>by have z':Data.seq _ _=Data.cell v:=z;cases z'⟩
  ·exact ⟨_,h3,fun v z=>by have z':Data.seq _ _=Data.cell v:=z;cases z'⟩
  ·obtain ⟨o,e1,c,d⟩:=h4
   exact ⟨o,e1,fun v z=>by rw [d] at z;cases z⟩
  ·obtain ⟨o,e1,c,d⟩:=h5
   exact ⟨o,e1,fun v z=>by rw [d] at z;cases z⟩
 keep:=fun i h h' st k=>by
  obtain ⟨h1,h2,⟨p,q,h3⟩,h4,h5⟩:=st
  exact ⟨k _ (by simp) _ h1,k _ (by simp) _ h2,⟨p,q,k _ (by simp) _ h3⟩,h4.at fun o q=>k _ (by simp) o q,h5.at fun o q=>k _ (by simp) o q⟩
 item:=by
  intro X hP hw hK hc i pins s σ H E I hf st hg
  subst hP hw hK
  obtain ⟨h1,h2,⟨p,q,h3⟩,h4,h5⟩:=st
  obtain ⟨xs,ys,x,y,hqa,hqb,hx,hy⟩:=hg
  obtain ⟨ia,rva,pa,hza⟩:=I.list hqa
  obtain ⟨ib,rvb,pb,hzb⟩:=I.list hqb
  obtain ⟨u,hu,ru⟩:=rva.get hx
  obtain ⟨v,hv,rv⟩:=rvb.get hy
  have hzl:z < s.heap.objs.size:=Heap.lt_size h1
  have htl:TI < s.heap.objs.size:=Heap.lt_size h2
  have hol:TO < s.heap.objs.size:=Heap.lt_size h3
  have h1l:i1 < s.heap.objs.size:=by obtain ⟨o,q,_⟩:=id h4;exact Heap.lt_size q
  have h2l:i2 < s.heap.objs.size:=by obtain ⟨o,q,_⟩:=id h5;exact Heap.lt_size q
  refine wpAny_pyNext_zip_item ap h1 h2 h3 h4 h5 pa.isList pb.isList (x:=u) (y:=v) (by simpa using hu) (by simpa using hv) fun hh z1 o1 l1 l2 pt hsz hk=>?_
  refine ⟨_,rfl,wpAny_letOwnedTupleGo_zip z1 fun h2' z2 sb=>?_⟩
  have kk:∀ c o,c≠z→c≠TO→c≠i1→c≠i2→s.heap.get? c=some o→h2'.get? c=some o:=fun c o n1 n2 n3 n4 e=>sb.extBut c o n1 (hk c o n1 n2 n3 n4 e)
  have hT2:h2'.get? s.heap.objs.size=some { cls:=.type "tuple",data:=.seq #[u,v] }:=(sb.2 _ (Nat.ne_of_gt hzl)).trans pt
  have I1:Inv X pins σ (upd H s.heap.objs.size (.tup [x,y])) { s with heap:=h2',toks:=s.toks } :=
   I.turnL (ch:=[z,TI,TO,i1,i2]) hf (fun c o hc e=>by
    simp only [List.mem_cons,List.not_mem_nil,or_false,not_or] at hc
    exact kk c o hc.1 hc.2.2.1 hc.2.2.2.1 hc.2.2.2.2 e) (Nat.le_refl _)
    ⟨by show 2≤sizeLine;decide,[u,v],.cons ru (.cons rv .nil),⟨_,hT2,rfl,_,rfl⟩⟩
  refine ⟨.ref s.heap.objs.size,_,I1,rfl,⟨_,x,y,rfl,I.hok.fresh (Nat.le_refl _),rfl,fun ys' hy'=>by rw [I.list_inj hy' hqa];exact hx,fun ys' hy'=>by rw [I.list_inj hy' hqb];exact hy⟩,⟨z2,kk _ _ ap.TIz ap.TITO ap.TIi1 ap.TIi2 h2,⟨u,v,sb.extBut _ _ ap.TOz o1⟩,l1.extBut sb.extBut ap.i1z,l2.extBut sb.extBut ap.i2z⟩,fun c hc=>?_⟩
  have hcl:c < s.heap.objs.size:=by
   simp only [List.mem_cons,List.not_mem_nil,or_false] at hc
   rcases hc with rfl | rfl | rfl | rfl | rfl <;> assumption
  rw [upd_ne (Nat.ne_of_lt hcl)]
  exact (hf c hc).1
 done:=by
  intro X hP hw hK hc i pins s σ H E I hf st hg
  subst hP hw hK
  obtain ⟨h1,h2,⟨p,q,h3⟩,h4,h5⟩:=st
  obtain ⟨xs,ys,hqa,hqb,hx⟩:=hg
  obtain ⟨ia,rva,pa,hza⟩:=I.list hqa
  obtain ⟨ib,rvb,pb,hzb⟩:=I.list hqb
  have hl:=rva.length
  exact wpAny_pyNext_zip_end (I.ok.hd hc) ap h1 h2 h3 h4 h5 pa.isList pb.isList (.inl (by simp;omega)) fun h' k=>⟨rfl,I.turnedL (t':=s.toks) hf (fun c o hc e=>by
   simp only [List.mem_cons,List.not_mem_nil,or_false,not_or] at hc
   exact k c o hc.1 hc.2.2.1 hc.2.2.2.1 hc.2.2.2.2 e)⟩
 self:=fun _ _ _ _ _ st h=>wpAny_pyIter_zip st.1 h
section
variable {X:Cx}
theorem zip_apart {n a b:Nat} (ha:a < n) (hb:b < n):ZipApart (n+4) (n+2) (n+3) n (n+1) a b:=by
 constructor <;> (intro h;(have h':@Eq Nat _ _:=h);omega)
def iZip (K:PySem.W.Frag) (ta:TA):TI:=fun σ H R=>ta σ H fun vs H1=>∃ a b,vs=[.ref a,.ref b]∧(∃ xs,SqL K H1 a xs)∧(∃ ys,SqL K H1 b ys)∧R (It2 K a b) H1
theorem pi_zip (K:PySem.W.Frag) {es:List Expr} {kk:Nat} {p0:Pos} {l1 l2:Expr} {ta:TA} {p pos:Pos} (hg:Gl X "zip") (hm:X.mg "zip"=none) (ha:PA X [l1,l2] ta) (hs:starEach [l1,l2] X.env=(false,eval l1 X.env) :: starEach [l2] X.env:=by rfl) (hs2:((backTo pos (starEach [l2] X.env)).any fun x=>x.fst)=false:=by rfl) (hK:X.K=K:=by rfl) :
  PI X (.Tuple es kk p0) (.Call (.Name "zip" p) [l1,l2] [] pos) (iZip K ta):=by
 subst hK
 intro pins s σ H R I h
 refine Call_ (ld_blt I hg hm boot_zip (PyProof.Rows.callWith_type1 (thn (ha pos pins s σ H _ I h) fun us s1 ⟨vs,H1,I1,r1,q1⟩=>?_) hs hs2))
 obtain ⟨a,b,e,⟨xs,hqa⟩,⟨ys,hqb⟩,q⟩:=q1
 subst e
 cases r1 with
 | cons ra rr =>
  cases rr with
  | cons rb rr =>
   cases rr
   cases ra
   cases rb
   obtain ⟨ia,rva,pa,hza⟩:=I1.list hqa
   obtain ⟨ib,rvb,pb,hzb⟩:=I1.list hqb
   have hal:a < s1.heap.objs.size:=by obtain ⟨o,q,_⟩:=id pa.isList;exact Heap.lt_size q
   have hbl:b < s1.heap.objs.size:=by obtain ⟨o,q,_⟩:=id pb.isList;exact Heap.lt_size q
   refine call_zip_2 pa.isList pb.isList fun h' z1 t1 o1 l1 l2 hsz hk=>?_
   refine wpAny_pyIter_zip z1 ?_
   have I2:Inv X pins σ H1 { s1 with heap:=h' }:=I1.kept (t':=s1.toks) hk
   have ap:ZipApart (s1.heap.objs.size+4) (s1.heap.objs.size+2) (s1.heap.objs.size+3) s1.heap.objs.size (s1.heap.objs.size+1) a b:=by
    exact zip_apart hal hbl
   refine ⟨s1.heap.objs.size+4,[s1.heap.objs.size+4,s1.heap.objs.size+2,s1.heap.objs.size+3,s1.heap.objs.size,s1.heap.objs.size+1],_,_,H1,rfl,I2,turn_zip _ _ _ _ _ a b ap,⟨z1,t1,⟨_,_,o1⟩,l1,l2⟩,fun c hc=>?_,q⟩
   have hc':s1.heap.objs.size≤c:=by
    simp only [List.mem_cons,List.not_mem_nil,or_false] at hc
    rcases hc with rfl | rfl | rfl | rfl | rfl <;> first | exact Nat.le_refl _ | exact Nat.le_add_right _ _
   exact I1.fpOk hc' (I1.hok.fresh hc')
theorem for_zip {K:PySem.W.Frag} {a b:Addr} {xs ys:List V} {g:TG} {tb:TS} {D:Ends} {σ:St} {H:Hp} (Pv:Nat→St→Hp→Prop) (h0:Pv 0 σ H) (hlen:xs.length=ys.length) (hl:∀ i σ H,i≤xs.length→Pv i σ H→SqL K H a xs∧SqL K H b ys)
  (hs:∀ i x y σ H t,xs[i]?=some x→ys[i]?=some y→Pv i σ H→H t=none→g (.ref t) σ (upd H t (.tup [x,y])) fun σ2 H2=>tb { D with nx:=Pv (i+1),ct:=Pv (i+1),bk:=D.nx } σ2 H2) (hd:∀ σ H,Pv xs.length σ H→D.nx σ H) :
  ∃ W:Nat→Nat→St→Hp→Prop,(∃ m,W 0 m σ H)∧∀ i m σ H,W i m σ H →
   ((It2 K a b).stop i H∧D.nx σ H)∨((It2 K a b).go i H∧∃ N:St→Hp→Prop,(∀ σ' H',N σ' H'→∃ m',m' < m∧W (i+1) m' σ' H')∧∀ x H',(It2 K a b).yld i H x H'→g x σ H' fun σ2 H2=>tb { D with nx:=N,ct:=N,bk:=D.nx } σ2 H2):=by
 refine ⟨fun i m σ H=>m=xs.length - i∧i≤xs.length∧Pv i σ H,⟨xs.length,by simp,Nat.zero_le _,h0⟩,?_⟩
 rintro i m σ H ⟨rfl,hi,p⟩
 have q:=hl i σ H hi p
 by_cases hlt:i < xs.length
 ·have hlt2:i < ys.length:=by omega
  refine .inr ⟨⟨xs,ys,xs[i],ys[i],q.1,q.2,by simp [hlt],by simp [hlt2]⟩,Pv (i+1),fun σ' H' p'=>⟨xs.length - (i+1),by omega,rfl,hlt,p'⟩,fun x H' y=>?_⟩
  obtain ⟨t,u,v,rfl,ht,rfl,y1,y2⟩:=y
  exact hs i u v σ H t (y1 xs q.1) (y2 ys q.2) p ht
 ·have e:i=xs.length:=by omega
  subst e
  exact .inl ⟨⟨xs,ys,q.1,q.2,Nat.le_refl _⟩,hd σ H p⟩
end
section
variable {σ:St} {H:Hp} {ta:TA}
theorem r_izip {K:PySem.W.Frag} {R:It→Hp→Prop} (h:ta σ H fun vs H1=>∃ a b,vs=[.ref a,.ref b]∧(∃ xs,SqL K H1 a xs)∧(∃ ys,SqL K H1 b ys)∧R (It2 K a b) H1):iZip K ta σ H R:=h
end
end L2
namespace My
open PySem L2
def numS (n:Int):Str:=Str.ofString (toString n)
def valL (l:List Nat):Nat:=l.foldl (fun a c=>10 * a+(c - 48)) 0
theorem num_all:∀ n:Nat,n < 400→valL (numS (n:Int)).cps.toList=n∧(numS (n:Int)).cps.toList.all (fun c=>decide (48≤c) && decide (c≤57))=true∧(numS (n:Int)).length≤3:=by decide +kernel
theorem num_of {n:Int} (h0:0≤n) (h1:n < 400):valL (numS n).cps.toList=n.toNat∧(∀ c∈(numS n).cps.toList,48≤c∧c≤57)∧(numS n).length≤3:=by
 obtain ⟨a,b,c⟩:=num_all n.toNat (by omega)
 rw [show ((n.toNat:Nat):Int)=n by omega] at a b c
 refine ⟨a,fun x hx=>?_,c⟩
 have:=List.all_eq_true.mp b x hx
 simpa using this
theorem num_inj {m n:Int} (m0:0≤m) (m1:m < 400) (n0:0≤n) (n1:n < 400) (h:numS m=numS n):m=n:=by
 have a:=(num_of m0 m1).1
 have b:=(num_of n0 n1).1
 rw [h,b] at a
 omega
def numT (n:Nat):List (Key×V):=(List.range n).map fun (k:Nat)=>((Sum.inr (numS (k:Int)):Key),V.int (k:Int))
theorem numT_succ (n:Nat):numT (n+1)=numT n++[((Sum.inr (numS (n:Int)):Key),V.int (n:Int))]:=by
 unfold numT;rw [List.range_succ,List.map_append];rfl
theorem numT_none {n:Nat} (h:n < 400):∀ m,m≤n→valV (numT m) (Sum.inr (numS (n:Int)):Key)=none
 | 0,_=>rfl
 | m+1,hm=>by
  have ih:=numT_none h m (by omega)
  have hne:¬ (Sum.inr (numS (n:Int)):Key)=Sum.inr (numS (m:Int)):=fun z=>by
   have:=num_inj (by omega) (by omega) (by omega) (by omega) (Sum.inr.inj z)
   omega
  rw [numT_succ,← putK_new (V.int (m:Int)) (numT_none (by omega) m (Nat.le_refl m)),valV_put,if_neg hne,ih]
theorem take_snocT {α:Type} {l:List α} {i:Nat} {x:α} (h:l[i]?=some x):l.take (i+1)=l.take i++[x]:=by
 rw [List.take_add_one,h];rfl
end My
namespace L2
open PySem PySem.Spec PyProof.Rows
theorem six_none (n d:Nat):HT.sIx n d none=d:=rfl
theorem six_some {n d:Nat} {x:Int} (h:0≤x):HT.sIx n d (some x)=min x.toNat n:=by
 show (if x < 0 then (x+(n:Int)).toNat else min x.toNat n)=_
 rw [if_neg (by omega)]
theorem cut_from {xs:List V} {n:Int} (h0:0≤n) (h:n≤xs.length):cutV xs (some n) none=xs.drop n.toNat:=by
 unfold cutV
 rw [six_some h0,six_none,Nat.min_eq_left (by omega),List.take_of_length_le (by rw [List.length_drop];exact Nat.le_refl _)]
theorem cut_mid {xs:List V} {m n:Int} (h0:0≤m) (h1:m≤n) (h:n≤xs.length):cutV xs (some m) (some n)=(xs.drop m.toNat).take (n.toNat - m.toNat):=by
 unfold cutV
 rw [six_some h0,six_some (by omega),Nat.min_eq_left (by omega),Nat.min_eq_left (by omega)]
end L2
namespace My
abbrev Bk:=List (List Int×Bool)
def saidO (kvs:List (List Int×Bool)) (ws:List Int):Option Bool:=(kvs.find? fun kv=>decide (kv.1=ws)).map (·.2)
theorem saidO_snoc (kn:Bk) (w:List Int) (b:Bool) (u:List Int):saidO (kn++[(w,b)]) u=(saidO kn u).or (if w=u then some b else none):=by
 unfold saidO
 rw [List.find?_append]
 cases h:kn.find? fun kv=>decide (kv.1=u) with
 | some x=>simp
 | none =>
  by_cases e:w=u
  ·simp [List.find?,e]
  ·simp [List.find?,e]
theorem saidO_mono {kn:Bk} {w u:List Int} {b c:Bool} (h:saidO kn u=some c):saidO (kn++[(w,b)]) u=some c:=by rw [saidO_snoc,h];rfl
theorem saidO_inv {kn:Bk} {w u:List Int} {b c:Bool} (h:saidO (kn++[(w,b)]) u=some c):saidO kn u=some c∨u=w:=by
 rw [saidO_snoc] at h
 cases hk:saidO kn u with
 | some x=>rw [hk] at h;exact .inl h
 | none =>
  rw [hk] at h
  by_cases e:w=u
  ·exact .inr e.symm
  ·rw [if_neg e] at h;cases h
theorem saidO_mem {kn:Bk} {u:List Int} {b:Bool} (h:saidO kn u=some b):u∈kn.map Prod.fst:=by
 unfold saidO at h
 obtain ⟨x,h1,h2⟩:=Option.map_eq_some_iff.mp h
 have:=List.find?_some h1
 exact List.mem_map.mpr ⟨x,List.mem_of_find?_eq_some h1,by simpa using this⟩
def edgesOf (d:Int) (h:List Int):List (List Int):=(List.range d.toNat).map fun (j:Nat)=>h++[(j:Int)]
def linesOf (d:Int) (heads:List (List Int)):List (List Int):=heads.flatMap fun h=>h :: edgesOf d h
def gapOf (kn:Bk) (tails:List (List Int)) (l:List Int):Option (List Int):=(tails.find? fun t=>(saidO kn (l++t)).isNone).map fun t=>l++t
def nextQ (d:Int) (kn:Bk) (heads tails:List (List Int)):Option (List Int):=(linesOf d heads).findSome? (gapOf kn tails)
def rowOf (kn:Bk) (tails:List (List Int)) (l:List Int):List Bool:=tails.map fun t=>(saidO kn (l++t)).getD false
def headRows (kn:Bk) (heads tails:List (List Int)):List (List Bool):=heads.map (rowOf kn tails)
def looseOf (d:Int) (kn:Bk) (heads tails:List (List Int)):Option (List Int):=(linesOf d heads).find? fun l=>!decide (rowOf kn tails l∈headRows kn heads tails)
def growN (d:Int) (kn:Bk) (tails:List (List Int)):Nat→List (List Int)→List (List Int)
 | 0,hs=>hs
 | n+1,hs=>match nextQ d kn hs tails with
  | some _=>hs
  | none=>match looseOf d kn hs tails with
   | none=>hs
   | some e=>growN d kn tails n (hs++[e])
def grow (d:Int) (kn:Bk) (tails heads:List (List Int)):List (List Int):=growN d kn tails 400 heads
def endsK (tails:List (List Int)) (w:List Int):Nat→List (List Int)
 | 0=>tails
 | k+1=>if w.drop (w.length - (k+1))∈endsK tails w k then endsK tails w k else endsK tails w k++[w.drop (w.length - (k+1))]
def ends (tails:List (List Int)) (w:List Int):List (List Int):=endsK tails w w.length
theorem linesOf_snoc (d:Int) (heads:List (List Int)) (h:List Int):linesOf d (heads++[h])=linesOf d heads++h :: edgesOf d h:=by
 unfold linesOf;rw [List.flatMap_append];simp
theorem edgesOf_len (d:Int) (h:List Int):(edgesOf d h).length=d.toNat:=by simp [edgesOf]
theorem linesOf_len (d:Int):∀ heads:List (List Int),(linesOf d heads).length=heads.length * (d.toNat+1)
 | []=>by simp [linesOf]
 | h :: r=>by
  show ((h :: edgesOf d h)++linesOf d r).length=_
  rw [List.length_append,linesOf_len d r,List.length_cons,edgesOf_len,List.length_cons,Nat.succ_mul];omega
theorem mem_lines {d:Int} {heads:List (List Int)} {l:List Int}:l∈linesOf d heads↔∃ h∈heads,l=h∨∃ x:Int,0≤x∧x < d∧l=h++[x]:=by
 unfold linesOf
 rw [List.mem_flatMap]
 constructor
 ·rintro ⟨h,hh,hl⟩
  refine ⟨h,hh,?_⟩
  rcases List.mem_cons.mp hl with e | e
  ·exact .inl e
  ·obtain ⟨j,hj,rfl⟩:=List.mem_map.mp e
   have:=List.mem_range.mp hj
   exact .inr ⟨j,by omega,by omega,rfl⟩
 ·rintro ⟨h,hh,hl⟩
  refine ⟨h,hh,?_⟩
  rcases hl with e | ⟨x,x0,x1,e⟩
  ·rw [e];exact List.mem_cons_self
  ·refine List.mem_cons_of_mem _ (List.mem_map.mpr ⟨x.toNat,List.mem_range.mpr (by omega),?_⟩)
   rw [e,Int.toNat_of_nonneg x0]
theorem lines_at (d:Int):∀ (heads:List (List Int)) (i j:Nat) (h:List Int),heads[i]?=some h→j≤d.toNat→(linesOf d heads)[i * (d.toNat+1)+j]?=(h :: edgesOf d h)[j]?
 | [],i,j,h,e,_=>by simp at e
 | g :: r,0,j,h,e,hj=>by
  simp at e;subst e
  show ((g :: edgesOf d g)++linesOf d r)[0 * (d.toNat+1)+j]?=_
  rw [Nat.zero_mul,Nat.zero_add,List.getElem?_append_left (by rw [List.length_cons,edgesOf_len];omega)]
 | g :: r,i+1,j,h,e,hj=>by
  show ((g :: edgesOf d g)++linesOf d r)[(i+1) * (d.toNat+1)+j]?=_
  have hl:(g :: edgesOf d g).length=d.toNat+1:=by rw [List.length_cons,edgesOf_len]
  rw [List.getElem?_append_right (by rw [hl,Nat.succ_mul];omega),hl,show (i+1) * (d.toNat+1)+j - (d.toNat+1)=i * (d.toNat+1)+j by rw [Nat.succ_mul];omega]
  exact lines_at d r i j h (by simpa using e) hj
theorem lines_head {d:Int} {heads:List (List Int)} {i:Nat} {h:List Int} (e:heads[i]?=some h):(linesOf d heads)[i * (d.toNat+1)]?=some h:=by
 have:=lines_at d heads i 0 h e (Nat.zero_le _);simpa using this
theorem lines_edge {d:Int} {heads:List (List Int)} {i j:Nat} {h:List Int} (e:heads[i]?=some h) (hj:j < d.toNat):(linesOf d heads)[i * (d.toNat+1)+1+j]?=some (h++[(j:Int)]):=by
 have:=lines_at d heads i (j+1) h e (by omega)
 rw [show i * (d.toNat+1)+1+j=i * (d.toNat+1)+(j+1) by omega,this,List.getElem?_cons_succ]
 unfold edgesOf
 rw [List.getElem?_map,List.getElem?_range hj];rfl
theorem gap_none {kn:Bk} {tails:List (List Int)} {l:List Int}:gapOf kn tails l=none↔∀ t∈tails,∃ b,saidO kn (l++t)=some b:=by
 unfold gapOf
 rw [Option.map_eq_none_iff,List.find?_eq_none]
 constructor
 ·intro h t ht
  have:=h t ht
  cases e:saidO kn (l++t) with
  | none=>rw [e] at this;simp at this
  | some b=>exact ⟨b,rfl⟩
 ·intro h t ht
  obtain ⟨b,e⟩:=h t ht
  rw [e];simp
theorem next_none {d:Int} {kn:Bk} {heads tails:List (List Int)}:nextQ d kn heads tails=none↔∀ l∈linesOf d heads,∀ t∈tails,∃ b,saidO kn (l++t)=some b:=by
 unfold nextQ
 rw [List.findSome?_eq_none_iff]
 exact ⟨fun h l hl=>gap_none.mp (h l hl),fun h l hl=>gap_none.mpr (h l hl)⟩
theorem next_some {d:Int} {kn:Bk} {heads tails:List (List Int)} {w:List Int} (h:nextQ d kn heads tails=some w):∃ l∈linesOf d heads,∃ t∈tails,w=l++t∧saidO kn w=none:=by
 unfold nextQ at h
 obtain ⟨l,hl,hg⟩:=List.exists_of_findSome?_eq_some h
 unfold gapOf at hg
 obtain ⟨t,ht,rfl⟩:=Option.map_eq_some_iff.mp hg
 have:=List.find?_some ht
 exact ⟨l,hl,t,List.mem_of_find?_eq_some ht,rfl,by simpa using this⟩
theorem loose_none {d:Int} {kn:Bk} {heads tails:List (List Int)}:looseOf d kn heads tails=none↔∀ l∈linesOf d heads,rowOf kn tails l∈headRows kn heads tails:=by
 unfold looseOf
 rw [List.find?_eq_none]
 constructor
 ·intro h l hl
  have:=h l hl
  simpa using this
 ·intro h l hl
  simpa using h l hl
theorem loose_some {d:Int} {kn:Bk} {heads tails:List (List Int)} {e:List Int} (h:looseOf d kn heads tails=some e):e∈linesOf d heads∧rowOf kn tails e∉headRows kn heads tails:=by
 unfold looseOf at h
 have:=List.find?_some h
 exact ⟨List.mem_of_find?_eq_some h,by simpa using this⟩
theorem growN_stop {d:Int} {kn:Bk} {tails heads:List (List Int)} (h:nextQ d kn heads tails≠none∨looseOf d kn heads tails=none):∀ n,growN d kn tails n heads=heads
 | 0=>rfl
 | n+1=>by
  unfold growN
  cases hq:nextQ d kn heads tails with
  | some w=>rfl
  | none =>
   rcases h with h | h
   ·exact absurd hq h
   ·simp only [h]
theorem growN_step {d:Int} {kn:Bk} {tails heads:List (List Int)} {e:List Int} (h1:nextQ d kn heads tails=none) (h2:looseOf d kn heads tails=some e) (n:Nat):growN d kn tails (n+1) heads=growN d kn tails n (heads++[e]):=by
 conv=>lhs;unfold growN
 simp only [h1,h2]
theorem nodup_sub {α:Type} [DecidableEq α]:∀ {l m:List α},l.Nodup→(∀ x∈l,x∈m)→l.length≤m.length
 | [],m,_,_=>by simp
 | x :: l,m,hn,h=>by
  obtain ⟨h1,h2⟩:=List.nodup_cons.mp hn
  have hx:=h x List.mem_cons_self
  have:=nodup_sub (l:=l) (m:=m.erase x) h2 fun y hy=>by
   have hyx:y≠x:=fun e=>h1 (by rw [← e];exact hy)
   exact (List.mem_erase_of_ne hyx).mpr (h y (List.mem_cons_of_mem _ hy))
  rw [List.length_erase_of_mem hx] at this
  have hm:0 < m.length:=List.length_pos_of_mem hx
  rw [List.length_cons];omega
structure LI (d:Int) (kn:Bk) (heads tails:List (List Int)):Prop where
 hd0:heads[0]?=some []
 tl0:tails[0]?=some []
 hok:∀ h∈heads,WordOk d h
 tok:∀ t∈tails,WordOk d t
 pre:∀ (i:Nat) h,heads[i+1]?=some h→∃ (j:Nat) (g:List Int) (x:Int),j≤i∧heads[j]?=some g∧0≤x∧x < d∧h=g++[x]
 suf:∀ x t,x :: t∈tails→t∈tails
 dis:∀ (i j:Nat) g h,i < j→heads[i]?=some g→heads[j]?=some h→∃ t∈tails,∃ b,saidO kn (g++t)=some b∧saidO kn (h++t)=some (!b)
 kno:∀ (j:Nat) h,heads[j+1]?=some h→∃ b,saidO kn h=some b
 src:∀ w b,saidO kn w=some b→∃ l∈linesOf d heads,∃ t∈tails,w=l++t
theorem LI.start (d:Int):LI d [] [[]] [[]] where
 hd0:=rfl
 tl0:=rfl
 hok:=fun h hh x hx=>by rw [List.mem_singleton.mp hh] at hx;exact nomatch hx
 tok:=fun h hh x hx=>by rw [List.mem_singleton.mp hh] at hx;exact nomatch hx
 pre:=fun i h e=>by simp at e
 suf:=fun x t h=>by simp at h
 dis:=fun i j g h hij e1 e2=>by
  have h1:=(List.getElem?_eq_some_iff.mp e2).1
  simp at h1;omega
 kno:=fun j h e=>by simp at e
 src:=fun w b e=>by simp [saidO] at e
section
variable {d:Int} {kn:Bk} {heads tails:List (List Int)}
theorem LI.nodup (I:LI d kn heads tails):heads.Nodup:=by
 rw [List.nodup_iff_pairwise_ne,List.pairwise_iff_getElem]
 intro i j hi hj hij e
 obtain ⟨t,_,b,h1,h2⟩:=I.dis i j _ _ hij (List.getElem?_eq_getElem hi) (List.getElem?_eq_getElem hj)
 rw [e,h2] at h1
 cases b <;> simp at h1
theorem LI.mem0 (I:LI d kn heads tails):[]∈heads:=List.mem_of_getElem? I.hd0
theorem LI.tmem0 (I:LI d kn heads tails):[]∈tails:=List.mem_of_getElem? I.tl0
theorem LI.len (I:LI d kn heads tails):heads.length≤kn.length+1:=by
 have hs:∃ r,heads=[] :: r:=by
  have:=I.hd0
  cases heads with
  | nil=>simp at this
  | cons a r=>simp at this;exact ⟨r,by rw [this]⟩
 obtain ⟨r,rfl⟩:=hs
 have hn:=(List.nodup_cons.mp I.nodup).2
 have:=nodup_sub (m:=kn.map Prod.fst) hn fun x hx=>by
  obtain ⟨j,hj⟩:=List.getElem?_of_mem hx
  obtain ⟨b,hb⟩:=I.kno j x (by rw [List.getElem?_cons_succ];exact hj)
  exact saidO_mem hb
 rw [List.length_map] at this
 rw [List.length_cons];omega
theorem LI.hlen (I:LI d kn heads tails):∀ (n i:Nat) (h:List Int),i≤n→heads[i]?=some h→h.length≤i
 | n,0,h,_,e=>by rw [I.hd0] at e;cases e;simp
 | 0,i+1,h,hn,e=>by omega
 | n+1,i+1,h,hn,e=>by
  obtain ⟨j,g,x,hj,hg,_,_,rfl⟩:=I.pre i h e
  have:=LI.hlen I n j g (by omega) hg
  rw [List.length_append,List.length_singleton];omega
theorem LI.hlenM (I:LI d kn heads tails) {h:List Int} (hh:h∈heads):h.length < heads.length:=by
 obtain ⟨i,hi⟩:=List.getElem?_of_mem hh
 have:=I.hlen i i h (Nat.le_refl _) hi
 have:=(List.getElem?_eq_some_iff.mp hi).1
 omega
theorem LI.lok (I:LI d kn heads tails) {l:List Int} (hl:l∈linesOf d heads):WordOk d l∧l.length≤heads.length:=by
 obtain ⟨h,hh,e⟩:=mem_lines.mp hl
 have h1:=I.hok h hh
 have h2:=I.hlenM hh
 rcases e with rfl | ⟨x,x0,x1,rfl⟩
 ·exact ⟨h1,by omega⟩
 ·refine ⟨fun y hy=>?_,by rw [List.length_append,List.length_singleton];omega⟩
  rcases List.mem_append.mp hy with hy | hy
  ·exact h1 y hy
  ·rw [List.mem_singleton.mp hy];exact ⟨x0,x1⟩
theorem wok_app {d:Int} {a b:List Int} (ha:WordOk d a) (hb:WordOk d b):WordOk d (a++b):=fun x hx=>by
 rcases List.mem_append.mp hx with h | h
 ·exact ha x h
 ·exact hb x h
theorem LI.qok (I:LI d kn heads tails) {w:List Int} (h:nextQ d kn heads tails=some w):WordOk d w∧saidO kn w=none:=by
 obtain ⟨l,hl,t,ht,rfl,e⟩:=next_some h
 exact ⟨wok_app (I.lok hl).1 (I.tok t ht),e⟩
theorem LI.note (I:LI d kn heads tails) {w:List Int} (b:Bool) (h:nextQ d kn heads tails=some w):LI d (kn++[(w,b)]) heads tails where
 hd0:=I.hd0
 tl0:=I.tl0
 hok:=I.hok
 tok:=I.tok
 pre:=I.pre
 suf:=I.suf
 dis:=fun i j g h hij e1 e2=>by
  obtain ⟨t,ht,c,h1,h2⟩:=I.dis i j g h hij e1 e2
  exact ⟨t,ht,c,saidO_mono h1,saidO_mono h2⟩
 kno:=fun j h e=>by
  obtain ⟨c,hc⟩:=I.kno j h e
  exact ⟨c,saidO_mono hc⟩
 src:=fun u c e=>by
  rcases saidO_inv e with e | e
  ·exact I.src u c e
  ·obtain ⟨l,hl,t,ht,e2,_⟩:=next_some h
   exact ⟨l,hl,t,ht,e.trans e2⟩
theorem row_ne {kn:Bk} {tails:List (List Int)} {g h:List Int} (hg:∀ t∈tails,∃ b,saidO kn (g++t)=some b) (hh:∀ t∈tails,∃ b,saidO kn (h++t)=some b) (hne:rowOf kn tails g≠rowOf kn tails h) :
  ∃ t∈tails,∃ b,saidO kn (g++t)=some b∧saidO kn (h++t)=some (!b):=by
 have:∃ t∈tails,(saidO kn (g++t)).getD false≠(saidO kn (h++t)).getD false:=by
  refine Classical.byContradiction fun hc=>hne ?_
  unfold rowOf
  refine List.map_congr_left fun t ht=>Classical.byContradiction fun z=>hc ⟨t,ht,z⟩
 obtain ⟨t,ht,e⟩:=this
 obtain ⟨b,hb⟩:=hg t ht
 obtain ⟨c,hc⟩:=hh t ht
 refine ⟨t,ht,b,hb,?_⟩
 rw [hb,hc] at e
 rw [hc]
 cases b <;> cases c <;> simp at e ⊢
theorem LI.grown (I:LI d kn heads tails) {e:List Int} (h1:nextQ d kn heads tails=none) (h2:looseOf d kn heads tails=some e):LI d kn (heads++[e]) tails:=by
 obtain ⟨he,hr⟩:=loose_some h2
 have hk:=next_none.mp h1
 obtain ⟨g,hg,hx⟩:=mem_lines.mp he
 have hx:∃ x:Int,0≤x∧x < d∧e=g++[x]:=by
  rcases hx with rfl | hx
  ·exact absurd (List.mem_map.mpr ⟨e,hg,rfl⟩) hr
  ·exact hx
 obtain ⟨x,x0,x1,ex⟩:=hx
 have hpos:0 < heads.length:=List.length_pos_of_mem I.mem0
 refine ⟨?_,I.tl0,fun h hh=>?_,I.tok,fun i h e'=>?_,I.suf,fun i j a b hij e1 e2=>?_,fun j h e'=>?_,fun w b e'=>?_⟩
 ·rw [List.getElem?_append_left hpos];exact I.hd0
 ·rcases List.mem_append.mp hh with hh | hh
  ·exact I.hok h hh
  ·rw [List.mem_singleton.mp hh];exact (I.lok he).1
 ·by_cases hi:i+1 < heads.length
  ·rw [List.getElem?_append_left hi] at e'
   obtain ⟨j,g',x',hj,hg',r⟩:=I.pre i h e'
   exact ⟨j,g',x',hj,by rw [List.getElem?_append_left (by omega)];exact hg',r⟩
  ·have hi2:i+1=heads.length:=by
    have:=(List.getElem?_eq_some_iff.mp e').1
    rw [List.length_append,List.length_singleton] at this;omega
   rw [hi2,List.getElem?_append_right (Nat.le_refl _),Nat.sub_self] at e'
   have e'':e=h:=by simpa using e'
   obtain ⟨j,hj⟩:=List.getElem?_of_mem hg
   have hjl:=(List.getElem?_eq_some_iff.mp hj).1
   exact ⟨j,g,x,by omega,by rw [List.getElem?_append_left hjl];exact hj,x0,x1,by rw [← e'',ex]⟩
 ·by_cases hj:j < heads.length
  ·rw [List.getElem?_append_left hj] at e2
   rw [List.getElem?_append_left (by omega)] at e1
   exact I.dis i j a b hij e1 e2
  ·have hj2:j=heads.length:=by
    have:=(List.getElem?_eq_some_iff.mp e2).1
    rw [List.length_append,List.length_singleton] at this;omega
   rw [List.getElem?_append_left (by omega)] at e1
   rw [hj2,List.getElem?_append_right (Nat.le_refl _),Nat.sub_self] at e2
   have e2:e=b:=by simpa using e2
   subst e2
   have ha:=List.mem_of_getElem? e1
   refine row_ne (hk a (mem_lines.mpr ⟨a,ha,.inl rfl⟩)) (hk e he) fun z=>hr ?_
   rw [← z];exact List.mem_map.mpr ⟨a,ha,rfl⟩
 ·by_cases hj:j+1 < heads.length
  ·rw [List.getElem?_append_left hj] at e';exact I.kno j h e'
  ·have hj2:j+1=heads.length:=by
    have:=(List.getElem?_eq_some_iff.mp e').1
    rw [List.length_append,List.length_singleton] at this;omega
   rw [hj2,List.getElem?_append_right (Nat.le_refl _),Nat.sub_self] at e'
   have e'':e=h:=by simpa using e'
   obtain ⟨b,hb⟩:=hk e he [] I.tmem0
   rw [List.append_nil] at hb
   exact ⟨b,by rw [← e''];exact hb⟩
 ·obtain ⟨l,hl,t,ht,r⟩:=I.src w b e'
  refine ⟨l,?_,t,ht,r⟩
  rw [linesOf_snoc];exact List.mem_append_left _ hl
theorem ends_mem {tails:List (List Int)} {w:List Int}:∀ {k:Nat} {t:List Int},t∈tails→t∈endsK tails w k
 | 0,t,h=>h
 | k+1,t,h=>by
  unfold endsK
  split
  ·exact ends_mem h
  ·exact List.mem_append_left _ (ends_mem h)
theorem ends_new {tails:List (List Int)} {w:List Int}:∀ {k j:Nat},0 < j→j≤k→w.drop (w.length - j)∈endsK tails w k
 | 0,j,h0,h=>by omega
 | k+1,j,h0,h=>by
  unfold endsK
  by_cases e:j=k+1
  ·subst e
   split
   ·assumption
   ·exact List.mem_append_right _ (List.mem_singleton.mpr rfl)
  ·have:=ends_new (tails:=tails) (w:=w) (k:=k) h0 (by omega)
   split
   ·exact this
   ·exact List.mem_append_left _ this
theorem ends_inv {tails:List (List Int)} {w:List Int}:∀ {k:Nat} {t:List Int},t∈endsK tails w k→t∈tails∨∃ j,0 < j∧j≤k∧t=w.drop (w.length - j)
 | 0,t,h=>.inl h
 | k+1,t,h=>by
  unfold endsK at h
  split at h
  ·rcases ends_inv h with h | ⟨j,h0,h1,e⟩
   ·exact .inl h
   ·exact .inr ⟨j,h0,by omega,e⟩
  ·rcases List.mem_append.mp h with h | h
   ·rcases ends_inv h with h | ⟨j,h0,h1,e⟩
    ·exact .inl h
    ·exact .inr ⟨j,h0,by omega,e⟩
   ·exact .inr ⟨k+1,by omega,Nat.le_refl _,List.mem_singleton.mp h⟩
theorem ends_pre {tails:List (List Int)} {w:List Int}:∀ (k:Nat),∃ r,endsK tails w k=tails++r∧r.length≤k
 | 0=>⟨[],by simp [endsK],by simp⟩
 | k+1=>by
  obtain ⟨r,e,hr⟩:=ends_pre (tails:=tails) (w:=w) k
  unfold endsK
  split
  ·exact ⟨r,e,by omega⟩
  ·exact ⟨r++[w.drop (w.length - (k+1))],by rw [e,List.append_assoc],by simp;omega⟩
theorem LI.told (I:LI d kn heads tails) {w:List Int} (b:Bool) (hw:WordOk d w) (hn:saidO kn w=none):LI d (kn++[(w,b)]) heads (ends tails w) where
 hd0:=I.hd0
 tl0:=by
  obtain ⟨r,e,_⟩:=ends_pre (tails:=tails) (w:=w) w.length
  unfold ends
  rw [e,List.getElem?_append_left (List.length_pos_of_mem I.tmem0)]
  exact I.tl0
 hok:=I.hok
 tok:=fun t ht x hx=>by
  rcases ends_inv ht with h | ⟨j,_,_,e⟩
  ·exact I.tok t h x hx
  ·rw [e] at hx;exact hw x (List.mem_of_mem_drop hx)
 pre:=I.pre
 suf:=fun x t h=>by
  rcases ends_inv h with h | ⟨j,h0,h1,e⟩
  ·exact ends_mem (I.suf x t h)
  ·by_cases hj:j=1
   ·subst hj
    have hl:=congrArg List.length e
    rw [List.length_cons,List.length_drop] at hl
    have:t=[]:=List.eq_nil_of_length_eq_zero (by omega)
    rw [this];exact ends_mem I.tmem0
   ·have e2:t=w.drop (w.length - (j - 1)):=by
     have:=congrArg List.tail e
     rw [List.tail_cons,List.tail_drop] at this
     rw [this];congr 1;omega
    rw [e2];exact ends_new (by omega) (by omega)
 dis:=fun i j g h hij e1 e2=>by
  obtain ⟨t,ht,c,h1,h2⟩:=I.dis i j g h hij e1 e2
  exact ⟨t,ends_mem ht,c,saidO_mono h1,saidO_mono h2⟩
 kno:=fun j h e=>by
  obtain ⟨c,hc⟩:=I.kno j h e
  exact ⟨c,saidO_mono hc⟩
 src:=fun u c e=>by
  rcases saidO_inv e with e | e
  ·obtain ⟨l,hl,t,ht,r⟩:=I.src u c e
   exact ⟨l,hl,t,ends_mem ht,r⟩
  ·refine ⟨[],mem_lines.mpr ⟨[],I.mem0,.inl rfl⟩,u,?_,rfl⟩
   rw [e]
   by_cases hw0:w=[]
   ·rw [hw0];exact ends_mem I.tmem0
   ·have hp:0 < w.length:=List.length_pos_iff.mpr hw0
    have:=ends_new (tails:=tails) (w:=w) (k:=w.length) hp (Nat.le_refl _)
    rw [Nat.sub_self,List.drop_zero] at this
    exact this
end
end My
namespace My
def ixR (kn:Bk) (heads tails:List (List Int)) (l:List Int):Int:=(((headRows kn heads tails).findIdx fun r=>decide (r=rowOf kn tails l):Nat):Int)
def guessW (d:Int) (kn:Bk) (heads tails:List (List Int)):List (List Int):=heads.map fun h=>(edgesOf d h).map (ixR kn heads tails)
def guessL (kn:Bk) (heads:List (List Int)):List Bool:=heads.map fun h=>(saidO kn h).getD false
structure Closed (d:Int) (kn:Bk) (heads tails:List (List Int)):Prop where
 q:nextQ d kn heads tails=none
 l:looseOf d kn heads tails=none
def lampW (rss:List (List Int)) (ls:List Bool) (w:List Int):Bool:=ls.getD (walkI rss 0 w).toNat false
theorem row_eq {kn:Bk} {tails:List (List Int)} {g h:List Int} (e:rowOf kn tails g=rowOf kn tails h):∀ t∈tails,(saidO kn (g++t)).getD false=(saidO kn (h++t)).getD false:=by
 unfold rowOf at e
 exact fun t ht=>List.map_inj_left.mp e t ht
section
variable {d:Int} {kn:Bk} {heads tails:List (List Int)}
theorem LI.rne (I:LI d kn heads tails) {i j:Nat} {g h:List Int} (hij:i < j) (e1:heads[i]?=some g) (e2:heads[j]?=some h):rowOf kn tails g≠rowOf kn tails h:=fun z=>by
 obtain ⟨t,ht,b,h1,h2⟩:=I.dis i j g h hij e1 e2
 have:=row_eq z t ht
 rw [h1,h2] at this
 cases b <;> simp at this
theorem LI.ix_head (I:LI d kn heads tails) {i:Nat} {h:List Int} (e:heads[i]?=some h) {l:List Int} (hr:rowOf kn tails h=rowOf kn tails l):ixR kn heads tails l=i:=by
 unfold ixR
 obtain ⟨hi,eh⟩:=List.getElem?_eq_some_iff.mp e
 have hi':i < (headRows kn heads tails).length:=by unfold headRows;rw [List.length_map];exact hi
 have:(headRows kn heads tails).findIdx (fun r=>decide (r=rowOf kn tails l))=i:=by
  rw [List.findIdx_eq hi']
  have gm:∀ (j:Nat) (hj:j < (headRows kn heads tails).length) (hj2:j < heads.length),(headRows kn heads tails)[j]=rowOf kn tails heads[j]:=fun j hj hj2=>by simp [headRows]
  refine ⟨by rw [gm i hi' hi,eh];simpa using hr,fun j hj=>?_⟩
  rw [gm j (by omega) (by omega)]
  have:=I.rne hj (List.getElem?_eq_getElem (by omega)) e
  rw [hr] at this
  simpa using this
 rw [this]
theorem LI.ix_ok (I:LI d kn heads tails) (C:Closed d kn heads tails) {l:List Int} (hl:l∈linesOf d heads):∃ (i:Nat) (h:List Int),heads[i]?=some h∧ixR kn heads tails l=i∧rowOf kn tails h=rowOf kn tails l:=by
 have:=loose_none.mp C.l l hl
 obtain ⟨h,hh,e⟩:=List.mem_map.mp this
 obtain ⟨i,hi⟩:=List.getElem?_of_mem hh
 exact ⟨i,h,hi,I.ix_head hi e,e⟩
theorem edge_get {h:List Int} {x:Int} (x0:0≤x) (x1:x < d):(edgesOf d h)[x.toNat]?=some (h++[x]):=by
 unfold edgesOf
 rw [List.getElem?_map,List.getElem?_range (by omega)]
 simp [Int.toNat_of_nonneg x0]
theorem guess_step {i:Nat} {h:List Int} (e:heads[i]?=some h) {x:Int} (x0:0≤x) (x1:x < d):step (guessW d kn heads tails) (i:Int) x=ixR kn heads tails (h++[x]):=by
 unfold step guessW
 simp only [Int.toNat_natCast,List.getD_eq_getElem?_getD,List.getElem?_map,e,Option.map_some,Option.getD_some,edge_get x0 x1]
theorem edge_line {h:List Int} (hh:h∈heads) {x:Int} (x0:0≤x) (x1:x < d):h++[x]∈linesOf d heads:=mem_lines.mpr ⟨h,hh,.inr ⟨x,x0,x1,rfl⟩⟩
theorem LI.walk_tail (I:LI d kn heads tails) (C:Closed d kn heads tails):∀ (t:List Int),t∈tails→∀ (i:Nat) (h:List Int),heads[i]?=some h →
  ∃ (j:Nat) (g:List Int),heads[j]?=some g∧walkI (guessW d kn heads tails) (i:Int) t=j∧saidO kn g=saidO kn (h++t)
 | [],_,i,h,e=>⟨i,h,e,rfl,by rw [List.append_nil]⟩
 | x :: t,ht,i,h,e=>by
  have hx:=I.tok _ ht x List.mem_cons_self
  have hl:=edge_line (List.mem_of_getElem? e) hx.1 hx.2
  obtain ⟨j,g,hj,ej,er⟩:=I.ix_ok C hl
  have ht':=I.suf x t ht
  obtain ⟨k,f,hk,ek,es⟩:=I.walk_tail C t ht' j g hj
  refine ⟨k,f,hk,?_,?_⟩
  ·show walkI _ (step _ (i:Int) x) t=_
   rw [guess_step e hx.1 hx.2,ej,ek]
  ·rw [es]
   have:=row_eq er t ht'
   have all:=next_none.mp C.q
   obtain ⟨b,hb⟩:=all g (mem_lines.mpr ⟨g,List.mem_of_getElem? hj,.inl rfl⟩) t ht'
   obtain ⟨c,hc⟩:=all _ hl t ht'
   rw [hb,hc] at this
   rw [hb,show h++x :: t=h++[x]++t by simp,hc]
   simpa using this
theorem LI.walk_head (I:LI d kn heads tails) (C:Closed d kn heads tails):∀ (n i:Nat) (h:List Int),i≤n→heads[i]?=some h→walkI (guessW d kn heads tails) 0 h=i
 | n,0,h,_,e=>by rw [I.hd0] at e;cases e;rfl
 | 0,i+1,h,hn,e=>by omega
 | n+1,i+1,h,hn,e=>by
  obtain ⟨j,g,x,hj,hg,x0,x1,rfl⟩:=I.pre i h e
  rw [walkI_snoc,LI.walk_head I C n j g (by omega) hg,guess_step hg x0 x1]
  exact I.ix_head e rfl
theorem guessL_get {j:Nat} {g:List Int} {b:Bool} (hg:heads[j]?=some g) (hb:saidO kn g=some b):(guessL kn heads).getD ((j:Int)).toNat false=b:=by
 unfold guessL
 rw [Int.toNat_natCast,List.getD_eq_getElem?_getD,List.getElem?_map,hg,Option.map_some,Option.getD_some,hb]
 rfl
theorem LI.says (I:LI d kn heads tails) (C:Closed d kn heads tails) {w:List Int} {b:Bool} (hw:saidO kn w=some b):lampW (guessW d kn heads tails) (guessL kn heads) w=b:=by
 obtain ⟨l,hl,t,ht,rfl⟩:=I.src w b hw
 obtain ⟨h,hh,e⟩:=mem_lines.mp hl
 obtain ⟨i,hi⟩:=List.getElem?_of_mem hh
 unfold lampW
 rw [walkI_app]
 rcases e with rfl | ⟨x,x0,x1,rfl⟩
 ·rw [I.walk_head C i i l (Nat.le_refl _) hi]
  obtain ⟨j,g,hj,ej,es⟩:=I.walk_tail C t ht i l hi
  rw [ej]
  exact guessL_get hj (es.trans hw)
 ·rw [walkI_snoc,I.walk_head C i i h (Nat.le_refl _) hi,guess_step hi x0 x1]
  obtain ⟨k,f,hk,ek,er⟩:=I.ix_ok C hl
  rw [ek]
  obtain ⟨j,g,hj,ej,es⟩:=I.walk_tail C t ht k f hk
  rw [ej]
  have:=row_eq er t ht
  obtain ⟨c,hc⟩:=next_none.mp C.q f (mem_lines.mpr ⟨f,List.mem_of_getElem? hk,.inl rfl⟩) t ht
  rw [hc,hw] at this
  refine guessL_get hj ?_
  rw [es,hc]
  simpa using this
theorem LI.valid (I:LI d kn heads tails) (C:Closed d kn heads tails) (h1:1≤d) (h6:d≤6) (h4:heads.length≤400):Valid d (guessW d kn heads tails) (guessL kn heads) where
 row:=fun row hr=>by
  obtain ⟨h,hh,rfl⟩:=List.mem_map.mp hr
  refine ⟨by rw [List.length_map,edgesOf_len];omega,fun x hx=>?_⟩
  obtain ⟨l,hl,rfl⟩:=List.mem_map.mp hx
  obtain ⟨j,hj,rfl⟩:=List.mem_map.mp hl
  have:=List.mem_range.mp hj
  obtain ⟨i,g,hi,ei,_⟩:=I.ix_ok C (edge_line hh (x:=(j:Int)) (by omega) (by omega))
  rw [ei]
  have:=(List.getElem?_eq_some_iff.mp hi).1
  unfold guessW
  rw [List.length_map]
  omega
 d1:=h1
 d6:=h6
 r1:=by unfold guessW;rw [List.length_map];exact List.length_pos_of_mem I.mem0
 r400:=by unfold guessW;rw [List.length_map];exact h4
 ll:=by unfold guessW guessL;rw [List.length_map,List.length_map]
end
structure RowsOk (d:Int) (kn:Bk) (heads tails:List (List Int)) (rows:List (List Bool)) (f:Nat):Prop where
 len:rows.length=(linesOf d heads).length
 row:∀ (k:Nat) r l,rows[k]?=some r→(linesOf d heads)[k]?=some l→r.length≤tails.length∧r.map some=(tails.take r.length).map fun t=>saidO kn (l++t)
 full:∀ (k:Nat) r,k < f→rows[k]?=some r→r.length=tails.length
 fle:f≤rows.length
section
variable {d:Int} {kn:Bk} {heads tails:List (List Int)} {rows:List (List Bool)} {f:Nat}
theorem row_of_some {r:List Bool} {l:List Int} (h:r.map some=tails.map fun t=>saidO kn (l++t)):r=rowOf kn tails l:=by
 unfold rowOf
 have:=congrArg (List.map fun o:Option Bool=>o.getD false) h
 rw [List.map_map,List.map_map] at this
 rw [← show r.map ((fun o:Option Bool=>o.getD false) ∘ some)=r by rw [show ((fun o:Option Bool=>o.getD false) ∘ some)=id from rfl,List.map_id]]
 exact this
theorem RowsOk.full_gap (R:RowsOk d kn heads tails rows f) {k:Nat} {r:List Bool} {l:List Int} (hr:rows[k]?=some r) (hl:(linesOf d heads)[k]?=some l) (he:r.length=tails.length):gapOf kn tails l=none∧r=rowOf kn tails l:=by
 obtain ⟨_,h2⟩:=R.row k r l hr hl
 rw [he,List.take_length] at h2
 refine ⟨gap_none.mpr fun t ht=>?_,row_of_some h2⟩
 obtain ⟨i,hi⟩:=List.getElem?_of_mem ht
 have e:=congrArg (fun z:List (Option Bool)=>z[i]?) h2
 simp only [List.getElem?_map,hi,Option.map_some] at e
 cases hri:r[i]? with
 | none=>rw [hri] at e;simp at e
 | some b=>rw [hri] at e;simp at e;exact ⟨b,e.symm⟩
theorem RowsOk.all (R:RowsOk d kn heads tails rows rows.length):nextQ d kn heads tails=none∧rows=(linesOf d heads).map (rowOf kn tails):=by
 constructor
 ·unfold nextQ
  rw [List.findSome?_eq_none_iff]
  intro l hl
  obtain ⟨k,hk⟩:=List.getElem?_of_mem hl
  have hk2:k < rows.length:=by rw [R.len];exact (List.getElem?_eq_some_iff.mp hk).1
  have hr:=List.getElem?_eq_getElem hk2
  exact (R.full_gap hr hk (R.full k _ hk2 hr)).1
 ·apply List.ext_getElem
  ·rw [R.len,List.length_map]
  ·intro k h1 h2
   rw [List.getElem_map]
   rw [List.length_map] at h2
   have hr:=List.getElem?_eq_getElem h1
   exact (R.full_gap hr (List.getElem?_eq_getElem h2) (R.full k _ h1 hr)).2
theorem RowsOk.next (R:RowsOk d kn heads tails rows f) {l w:List Int} (hl:(linesOf d heads)[f]?=some l) (hg:gapOf kn tails l=some w):nextQ d kn heads tails=some w:=by
 unfold nextQ
 have hf:f < (linesOf d heads).length:=(List.getElem?_eq_some_iff.mp hl).1
 have e:linesOf d heads=(linesOf d heads).take f++l :: (linesOf d heads).drop (f+1):=by
  conv=>lhs;rw [← List.take_append_drop f (linesOf d heads)]
  rw [List.drop_eq_getElem_cons hf]
  congr 2
  rw [List.getElem?_eq_getElem hf] at hl
  exact Option.some.inj hl
 rw [e,List.findSome?_append]
 have h0:((linesOf d heads).take f).findSome? (gapOf kn tails)=none:=by
  rw [List.findSome?_eq_none_iff]
  intro x hx
  obtain ⟨k,hk⟩:=List.getElem?_of_mem hx
  have hkf:k < f:=by
   have:=(List.getElem?_eq_some_iff.mp hk).1
   rw [List.length_take] at this;omega
  rw [List.getElem?_take_of_lt hkf] at hk
  have hk2:k < rows.length:=by rw [R.len];exact (List.getElem?_eq_some_iff.mp hk).1
  have hr:=List.getElem?_eq_getElem hk2
  exact (R.full_gap hr hk (R.full k _ hkf hr)).1
 rw [h0]
 simp [hg]
theorem RowsOk.set (R:RowsOk d kn heads tails rows f) {k:Nat} {l:List Int} {r:List Bool} (hl:(linesOf d heads)[k]?=some l) (h1:r.length≤tails.length) (h2:r.map some=(tails.take r.length).map fun t=>saidO kn (l++t)) (h3:k < f→r.length=tails.length):RowsOk d kn heads tails (rows.set k r) f where
 len:=by rw [List.length_set];exact R.len
 row:=fun j q l' e1 e2=>by
  by_cases hj:k=j
  ·subst hj
   rw [List.getElem?_set_self (by rw [R.len];exact (List.getElem?_eq_some_iff.mp hl).1)] at e1
   cases e1
   rw [hl] at e2;cases e2
   exact ⟨h1,h2⟩
  ·rw [List.getElem?_set_ne hj] at e1
   exact R.row j q l' e1 e2
 full:=fun j q hj e=>by
  by_cases hk:k=j
  ·subst hk
   have hlt:=(List.getElem?_eq_some_iff.mp e).1
   rw [List.length_set] at hlt
   rw [List.getElem?_set_self hlt] at e
   cases e
   exact h3 hj
  ·rw [List.getElem?_set_ne hk] at e
   exact R.full j q hj e
 fle:=by rw [List.length_set];exact R.fle
theorem RowsOk.succ (R:RowsOk d kn heads tails rows f) (hf:f < rows.length) (h:∀ r,rows[f]?=some r→r.length=tails.length):RowsOk d kn heads tails rows (f+1) :=
 ⟨R.len,R.row,fun k r hk e=>by
  by_cases hkf:k=f
  ·subst hkf;exact h r e
  ·exact R.full k r (by omega) e,hf⟩
theorem RowsOk.note (R:RowsOk d kn heads tails rows f) (w:List Int) (b:Bool):RowsOk d (kn++[(w,b)]) heads tails rows f:=by
 refine ⟨R.len,fun k r l e1 e2=>?_,R.full,R.fle⟩
 obtain ⟨h1,h2⟩:=R.row k r l e1 e2
 refine ⟨h1,?_⟩
 rw [h2]
 apply List.ext_getElem?
 intro i
 have e:=congrArg (fun z:List (Option Bool)=>z[i]?) h2
 simp only [List.getElem?_map] at e ⊢
 cases ht:(tails.take r.length)[i]? with
 | none=>rfl
 | some t =>
  rw [ht] at e
  cases hr:r[i]? with
  | none=>rw [hr] at e;simp at e
  | some c =>
   rw [hr] at e
   simp at e
   simp only [Option.map_some]
   rw [← e,saidO_mono e.symm]
theorem RowsOk.head (R:RowsOk d kn heads tails rows f) (h:List Int):RowsOk d kn (heads++[h]) tails (rows++List.replicate (d.toNat+1) []) f:=by
 refine ⟨?_,fun k r l e1 e2=>?_,fun k r hk e=>?_,?_⟩
 ·rw [linesOf_snoc,List.length_append,List.length_append,R.len,List.length_replicate,List.length_cons,edgesOf_len]
 ·rw [linesOf_snoc] at e2
  by_cases hk:k < rows.length
  ·rw [List.getElem?_append_left hk] at e1
   rw [List.getElem?_append_left (by rw [← R.len];exact hk)] at e2
   exact R.row k r l e1 e2
  ·rw [List.getElem?_append_right (by omega)] at e1
   have:r=[]:=(List.mem_replicate.mp (List.mem_of_getElem? e1)).2
   subst this
   simp
 ·have:=R.fle
  rw [List.getElem?_append_left (by omega)] at e
  exact R.full k r hk e
 ·have:=R.fle
  rw [List.length_append];omega
theorem RowsOk.more (R:RowsOk d kn heads tails rows f) (r':List (List Int)):RowsOk d kn heads (tails++r') rows 0:=by
 refine ⟨R.len,fun k r l e1 e2=>?_,fun k r hk e=>by omega,Nat.zero_le _⟩
 obtain ⟨h1,h2⟩:=R.row k r l e1 e2
 refine ⟨by rw [List.length_append];omega,?_⟩
 rw [List.take_append_of_le_length h1]
 exact h2
theorem pre_known {r:List Bool} {l:List Int} (h:r.map some=(tails.take r.length).map fun t=>saidO kn (l++t)):∀ t∈tails.take r.length,∃ b,saidO kn (l++t)=some b:=fun t ht=>by
 obtain ⟨i,hi⟩:=List.getElem?_of_mem ht
 have e:=congrArg (fun z:List (Option Bool)=>z[i]?) h
 simp only [List.getElem?_map,hi,Option.map_some] at e
 cases hri:r[i]? with
 | none=>rw [hri] at e;simp at e
 | some b=>rw [hri] at e;simp at e;exact ⟨b,e.symm⟩
theorem gap_at {r:List Bool} {l t:List Int} (h:r.map some=(tails.take r.length).map fun t=>saidO kn (l++t)) (ht:tails[r.length]?=some t) (hn:saidO kn (l++t)=none):gapOf kn tails l=some (l++t):=by
 have hlt:r.length < tails.length:=(List.getElem?_eq_some_iff.mp ht).1
 have e:tails=tails.take r.length++t :: tails.drop (r.length+1):=by
  conv=>lhs;rw [← List.take_append_drop r.length tails]
  rw [List.drop_eq_getElem_cons hlt]
  congr 2
  rw [List.getElem?_eq_getElem hlt] at ht
  exact Option.some.inj ht
 have h0:(tails.take r.length).find? (fun t=>(saidO kn (l++t)).isNone)=none:=by
  rw [List.find?_eq_none]
  intro u hu
  obtain ⟨b,hb⟩:=pre_known h u hu
  rw [hb];simp
 unfold gapOf
 rw [e,List.find?_append,h0,List.find?_cons_of_pos (by rw [hn];rfl)]
 rfl
theorem row_more {r:List Bool} {l t:List Int} {b:Bool} (h:r.map some=(tails.take r.length).map fun t=>saidO kn (l++t)) (ht:tails[r.length]?=some t) (hb:saidO kn (l++t)=some b) :
  (r++[b]).length≤tails.length∧(r++[b]).map some=(tails.take (r++[b]).length).map fun t=>saidO kn (l++t):=by
 have hlt:r.length < tails.length:=(List.getElem?_eq_some_iff.mp ht).1
 rw [List.length_append,List.length_singleton]
 refine ⟨hlt,?_⟩
 rw [List.take_add_one,ht,List.map_append,List.map_append,h]
 simp [hb]
theorem row_end {r:List Bool} {l:List Int} (h:r.map some=(tails.take r.length).map fun t=>saidO kn (l++t)) (hl:r.length=tails.length):gapOf kn tails l=none∧r=rowOf kn tails l:=by
 have hk:=pre_known h
 rw [hl,List.take_length] at h hk
 exact ⟨gap_none.mpr hk,row_of_some h⟩
end
theorem closed_of {d:Int} {kn:Bk} {heads tails:List (List Int)} (h:nextQ d kn heads tails≠none∨looseOf d kn heads tails=none) (hq:nextQ d kn heads tails=none):Closed d kn heads tails:=⟨hq,h.resolve_left fun z=>z hq⟩
end My
namespace L2
open PySem PySem.Spec PyProof.Rows
def isBoolOf (b:Bool) (v:Value):Bool:=match v with
 | .bool c=>c == b
 | _=>false
theorem isBoolOf_shape {b:Bool} {v:Value} (h:isBoolOf b v=true):v=.bool b:=by cases v <;> simp_all [isBoolOf]
theorem hash_bool {prog:Program} {w:World} {A:Around} {E:Value→Shared→Prop} {s:Shared} {b:Bool} {Q:Int→Shared→Prop} (h:Q (reduceHash (if b then 1 else 0)) { s with toks:=s.toks+1 }):wpAny (model prog w) A (PySem.pyHash (.bool b)) Q E s:=by
 refine PySem.W.pyHash_slot (T:="bool") rfl F.slot_bool_hash entry_int_hash (args_int_hash _) (beq_builtin_none _) (.inl rfl) ?_
 cases b
 ·exact (show wpAny _ _ (do ret (← mkInt 0)) _ _ s from wpAny_bind (wpAny_mkInt (wpAny_pure ⟨_,_,rfl,h⟩)))
 ·exact (show wpAny _ _ (do ret (← mkInt 1)) _ _ s from wpAny_bind (wpAny_mkInt (wpAny_pure ⟨_,_,rfl,h⟩)))
def boolKind (prog:Program) (w:World):PySem.KeyKind prog w Bool where
 is:=isBoolOf
 hash:=fun b=>reduceHash (if b then 1 else 0)
 inj:=fun v a b ha hb=>by
  have h1:=isBoolOf_shape ha
  rw [isBoolOf_shape hb] at h1
  injection h1 with h1
  exact h1.symm
 byValue:=fun k v h=>by rw [isBoolOf_shape h];rfl
 pyHash:=fun hv h=>by rw [isBoolOf_shape hv];exact hash_bool h
 eqBool:=fun {A E s a b u v Q} hu hv h=>by
  rw [isBoolOf_shape hu,isBoolOf_shape hv]
  refine SeqAt.EqAt.bool_bool a b _ _ _ _ ?_
  have e:(a == b)=decide (a=b):=by cases a <;> cases b <;> rfl
  rw [e];exact h
 «strs»:=fun k x t v h=>by simp [isBoolOf] at h
theorem Room.u16 {k:Nat} {A:Around} (r:Room k A):A.units+16 < cLine:=by have:=r.un;omega
theorem Room.u80 {k:Nat} {A:Around} (r:Room k A):A.units+80 < cLine:=by have:=r.un;omega
structure KD (P:Program) (w:World) (κ:Type) [DecidableEq κ] where
 kd:HeapKind P w κ
 ok:Hp→κ→Addr→Prop
 is:∀ {H:Hp} {h:Heap} {k:κ} {a:Addr},HOk P w H h→ok H k a→kd.is h k a
 keep:∀ {H H':Hp} {k:κ} {a:Addr},(∀ b ys,H b=some (.tup ys)→H' b=some (.tup ys))→ok H k a→ok H' k a
 room:∀ {A:Around},A.units+16 < cLine→kd.room A.in1
section
variable {P:Program} {w:World} {κ:Type} [DecidableEq κ]
def DGAt (D:KD P w κ) (a:Addr) (xs:List (κ×Addr×Value)):Heap→Prop:=fun h=>∃ o es ep,h.get? a=some o∧o.ExactDict∧o.data=.dict es ep∧es.toList=xs.map (entryOfKey D.kd)∧(xs.map (·.1)).Nodup
abbrev KG (D:KD P w κ) (H:Hp):List (κ×V)→List (κ×Addr×Value)→Prop:=Paired fun p q=>p.1=q.1∧D.ok H q.1 q.2.1∧RelV p.2 q.2.2
def DG (D:KD P w κ) (H:Hp) (a:Addr) (kvs:List (κ×V)):Prop:=∃ xs,H a=some (.ext (DGAt D a xs))∧KG D H kvs xs∧(a == sysModules)=false∧kvs.length≤sizeLine
theorem KG.val {D:KD P w κ} {H:Hp} {kvs:List (κ×V)} {xs:List (κ×Addr×Value)} (r:KG D H kvs xs) (k:κ):RelO (valV kvs k) ((atKey xs k).map (·.2)):=by
 induction r with
 | nil=>exact True.intro
 | @cons p q ps qs h t ih =>
  obtain ⟨h1,_,h2⟩:=h
  by_cases e:p.1=k
  ·have e':q.1=k:=h1.symm.trans e
   have b:atKey (q :: qs) k=some q.2:=by simp [atKey,List.find?_cons,e']
   rw [valV_pos e,b];exact h2
  ·have e':¬ q.1=k:=fun z=>e (h1.trans z)
   have b:atKey (q :: qs) k=atKey qs k:=by simp [atKey,List.find?_cons,e']
   rw [valV_neg e,b];exact ih
theorem KG.repl {D:KD P w κ} {H:Hp} {kvs:List (κ×V)} {xs:List (κ×Addr×Value)} (r:KG D H kvs xs) (k:κ) {y:V} {u:Value} (ry:RelV y u) :
  KG D H (kvs.map fun kv=>if kv.1=k then (kv.1,y) else kv) (xs.map (putAt k u)):=by
 induction r with
 | nil=>exact .nil
 | @cons p q ps qs h t ih =>
  rw [List.map_cons,List.map_cons]
  refine .cons ?_ ih
  obtain ⟨h1,h2,h3⟩:=h
  unfold putAt
  by_cases e:p.1=k
  ·rw [if_pos e,if_pos (h1.symm.trans e)];exact ⟨h1,h2,ry⟩
  ·rw [if_neg e,if_neg (fun z=>e (h1.trans z))];exact ⟨h1,h2,h3⟩
theorem KG.put {D:KD P w κ} {H:Hp} {kvs:List (κ×V)} {xs:List (κ×Addr×Value)} (r:KG D H kvs xs) (k:κ) {b:Addr} {y:V} {u:Value} (hb:D.ok H k b) (ry:RelV y u) :
  KG D H (putK kvs k y) (storedH xs k b u):=by
 have e:(kvs.any fun kv=>decide (kv.1=k))=(atKey xs k).isSome:=by
  rw [valV_any,(r.val k).isSome_eq,Option.isSome_map]
 unfold putK storedH
 rw [e]
 by_cases q:(atKey xs k).isSome=true
 ·rw [if_pos q,if_pos q];exact r.repl k ry
 ·rw [if_neg q,if_neg q];exact Paired.snoc r ⟨rfl,hb,ry⟩
theorem KG.keeps {D:KD P w κ} {H H':Hp} {kvs:List (κ×V)} {xs:List (κ×Addr×Value)} (r:KG D H kvs xs) (ht:∀ b ys,H b=some (.tup ys)→H' b=some (.tup ys)):KG D H' kvs xs :=
 Paired.mapP r fun _ _ z=>⟨z.1,D.keep ht z.2.1,z.2.2⟩
theorem DG.same {D:KD P w κ} {H H':Hp} {a:Addr} {kvs:List (κ×V)} (e:Same H H') (d:DG D H a kvs):DG D H' a kvs:=by
 obtain ⟨xs,h1,h2,h3⟩:=d
 exact ⟨xs,e _ _ h1,h2.keeps fun b ys q=>e _ _ q,h3⟩
theorem DG.at {D:KD P w κ} {H:Hp} {h:Heap} {a:Addr} {kvs:List (κ×V)} {xs:List (κ×Addr×Value)} (ok:HOk P w H h) (h1:H a=some (.ext (DGAt D a xs))) (r:KG D H kvs xs):h.DictOfH D.kd a xs:=by
 obtain ⟨⟨o,es,ep,g1,g2,g3,g4,g5⟩,_⟩:=(show ObjOk P w H h a (.ext (DGAt D a xs)) from ok a _ h1)
 refine ⟨o,es,ep,g1,g2,g3,g4,fun x hx=>?_,g5⟩
 have all:∀ {l:List (κ×V)} {m:List (κ×Addr×Value)},KG D H l m→∀ x∈m,D.kd.is h x.1 x.2.1:=by
  intro l m q
  induction q with
  | nil=>intro x hx;exact nomatch hx
  | @cons p q ps qs hq t ih =>
   intro x hx
   rcases List.mem_cons.mp hx with e | hx
   ·subst e
    exact D.is ok hq.2.1
   ·exact ih x hx
 exact all r x hx
theorem dg_ext {D:KD P w κ} {a:Addr} {xs:List (κ×Addr×Value)} {h:Heap} (hh:DGAt D a xs h):DGAt D a xs h∧(∃ o,h.get? a=some o)∧∀ h1 h2:Heap,DGAt D a xs h1→(∀ o,h1.get? a=some o→h2.get? a=some o)→DGAt D a xs h2:=by
 refine ⟨hh,?_,fun h1 h2 x k=>?_⟩
 ·obtain ⟨o,_,_,e,_⟩:=hh;exact ⟨o,e⟩
 ·obtain ⟨o,es,ep,e,r⟩:=x
  exact ⟨o,es,ep,k o e,r⟩
def tDNewG (D:KD P w κ):TE:=fun _ H Q=>∀ p,H p=none→DG D (upd H p (.ext (DGAt D p []))) p []→Q (.ref p) (upd H p (.ext (DGAt D p [])))
def tGNotIn (D:KD P w κ) (ty td:TE):TE:=fun σ H Q=>ty σ H fun y H1=>td σ H1 fun x H2=>∃ a b k kvs,x=.ref a∧y=.ref b∧D.ok H2 k b∧DG D H2 a kvs∧Q (.bl (!(valV kvs k).isSome)) H2
def tGGet (D:KD P w κ) (td ty:TE):TE:=fun σ H Q=>td σ H fun x H1=>ty σ H1 fun y H2=>∃ a b k kvs v,x=.ref a∧y=.ref b∧D.ok H2 k b∧DG D H2 a kvs∧valV kvs k=some v∧Q v H2
def sGPut (D:KD P w κ) (td ty tv:TE):TS:=fun E σ H=>tv σ H fun v H1=>td σ H1 fun x H2=>ty σ H2 fun y H3=>∃ a b k kvs,x=.ref a∧y=.ref b∧D.ok H3 k b∧DG D H3 a kvs∧kvs.length < sizeLine ∧
 ∀ H4,(∀ c,c≠a→H4 c=H3 c)→DG D H4 a (putK kvs k v)→E.nx σ H4
section
variable {X:Cx} {o i value:Expr} {pos pos':Pos} {td ty tv:TE}
theorem pe_dnewG {P:Program} {w:World} (D:KD P w κ) {pos:Pos} (hP:X.prog=P:=by rfl) (hw:X.w=w:=by rfl):PE X (.Dict [] [] pos) (tDNewG D):=by
 subst hP hw
 intro pins s σ H Q I h
 have hn:=I.hok.fresh (Nat.le_refl s.heap.objs.size)
 have hs:(s.heap.objs.size == sysModules)=false:=beq_eq_false_iff_ne.mpr (Ne.symm (Nat.ne_of_lt I.big))
 refine wpAny_Dict_empty ⟨.ref s.heap.objs.size,_,I.laid (a:=s.heap.objs.size) (o:=.ext (DGAt D s.heap.objs.size [])) (t':=s.toks) (fun _ _ q=>Heap.get?_push_of_some _ q) (Nat.le_refl _) ?_,rfl,h _ hn ⟨[],upd_same,.nil,hs,Nat.zero_le _⟩⟩
 exact dg_ext ⟨_,#[],0,Heap.get?_push_size _ rfl,⟨rfl,rfl,rfl⟩,rfl,rfl,List.nodup_nil⟩
theorem pc_gnotin {P:Program} {w:World} (D:KD P w κ) (hu:X.A.units+16 < cLine) (hi:PE X i ty) (ho:PE X o td) (hP:X.prog=P:=by rfl) (hw:X.w=w:=by rfl):PC X .NotIn i o (tGNotIn D ty td):=by
 subst hP hw
 intro pins s σ H Q I h
 refine thn (hi pins s σ H _ I h) fun iv s1 ⟨y,H1,I1,ry,q1⟩=>thn (ho pins s1 σ H1 _ I1 q1) fun u s2 ⟨x,H2,I2,rx,a,b,k,kvs,ex,ey,hk,⟨xs,g1,g2,g3,_⟩,q2⟩=>?_
 subst ex ey
 cases rx
 cases ry
 refine wpAny_notIn_heap (D.room hu) (D.is I2.hok hk) g3 (DG.at I2.hok g1 g2) ?_
 have e:=(g2.val k).isSome_eq
 rw [Option.isSome_map] at e
 rw [← e]
 exact ⟨.bl _,H2,I2.tok _,rfl,q2⟩
theorem pe_gget {P:Program} {w:World} (D:KD P w κ) (hu:X.A.units+16 < cLine) (ho:PE X o td) (hi:PE X i ty) (hs:NoSl i) (hP:X.prog=P:=by rfl) (hw:X.w=w:=by rfl):PE X (.Subscript o i pos) (tGGet D td ty):=by
 subst hP hw
 intro pins s σ H Q I h
 refine subD_of PySem.F.slot_dict_getitem.lookup hs (thn (ho pins s σ H _ I h) fun u s1 ⟨x,H1,I1,rx,q1⟩=>thn (hi pins s1 σ H1 _ I1 q1) fun iv s2 ⟨y,H2,I2,ry,a,b,k,kvs,v,ex,ey,hk,⟨xs,g1,g2,g3,_⟩,l,q2⟩=>?_)
 subst ex ey
 cases rx
 cases ry
 have dd:=DG.at I2.hok g1 g2
 refine ⟨dd.typeIs,?_⟩
 obtain ⟨w',hw',rw'⟩:=RelO.some_of (v:=v) (o:=(atKey xs k).map (·.2)) (by rw [← l];exact g2.val k)
 obtain ⟨p,hp,hp2⟩:=Option.map_eq_some_iff.mp hw'
 refine wpAny_getItem_heap (D.room hu) (D.is I2.hok hk) dd hp ?_
 rw [hp2]
 exact ⟨v,H2,I2.tok _,rw',q2⟩
theorem ps_gput {P:Program} {w:World} (D:KD P w κ) (hu:X.A.units+16 < cLine) (ho:PE X o td) (hi:PE X i ty) (hv:PE X value tv) (hs:swapsWith value (some (.Subscript o i pos')) pos.line X.env=pure false) (hP:X.prog=P:=by rfl) (hw:X.w=w:=by rfl) :
  PS X (.Assign [.Subscript o i pos'] value pos) (sGPut D td ty tv):=by
 subst hP hw
 intro pins s σ H E I h
 refine wpAny_Assign_Subscript (thn (hv pins s σ H _ I h) fun r s1 ⟨v,H1,I1,rv,q1⟩=>thn (ho pins s1 σ H1 _ I1 q1) fun u s2 ⟨x,H2,I2,rx,q2⟩=>thn (hi pins s2 σ H2 _ I2 q2) fun iv s3 ⟨y,H3,I3,ry,a,b,k,kvs,ex,ey,hk,⟨xs,g1,g2,g3,g4⟩,hl,q3⟩=>?_) hs
 subst ex ey
 cases rx
 cases ry
 have dd:=DG.at I3.hok g1 g2
 have hz:xs.length≤sizeLine:=by rw [← Paired.length g2];exact g4
 have hl':(putK kvs k v).length≤sizeLine:=by have:=length_putK kvs k v;omega
 refine wpAny_setItem_heap (hsz:=hz) (D.room hu) (D.is I3.hok hk) dd fun h' dd' hs=>?_
 obtain ⟨q,es,ep,hq,h2,h3,h4,_,h5⟩:=dd'
 have nt:∀ c ys,H3 c=some (.tup ys)→(upd H3 a (.ext (DGAt D a (storedH xs k b r)))) c=some (.tup ys):=fun c ys ec=>by
  rw [upd_ne (ne_of ec g1 (fun z=>nomatch z))];exact ec
 have I4:=d_write (t':=s3.toks+D.kd.draws k) (ob:=.ext (DGAt D a (storedH xs k b r))) I3 (by rw [g1];exact True.intro) hs ⟨q,hq⟩ (dg_ext ⟨q,es,ep,hq,h2,h3,h4,h5⟩)
 exact ⟨σ,_,I4,q3 _ (fun c hc=>upd_ne hc) ⟨_,upd_same,(g2.put k hk rv).keeps nt,g3,hl'⟩⟩
end
end
theorem items_bl {P:Program} {w:World}:∀ {ks:List Bool} {us:List Value},Vals (ks.map V.bl) us→ItemsAre (boolKind P w) ks us
 | [],_,r=>by rw [List.map_nil] at r;cases r;exact .nil
 | k :: ks,_,r=>by
  rw [List.map_cons] at r
  cases r with
  | cons h t =>
   cases h
   exact .cons (by show isBoolOf k (.bool k)=true;simp [isBoolOf]) (items_bl t)
def tbKD (P:Program) (w:World):KD P w (List Bool) where
 kd:=tupleKind (boolKind P w)
 ok:=fun H k a=>H a=some (.tup (k.map V.bl))
 is:=fun {H h k a} ok e=>by
  obtain ⟨_,its,r,o,h1,h2,n,h3⟩:=(show ObjOk P w H h a (.tup (k.map V.bl)) from ok a _ e)
  exact ⟨o,its.toArray,n,h1,h2,h3,by simpa using items_bl r⟩
 keep:=fun ht e=>ht _ _ e
 room:=fun {A} hu=>tupleKind_room_in1 (by omega)
section
variable {X:Cx} {pins:List (Addr×Obj)} {σ:St} {H:Hp} {s:Shared}
theorem eqat_ints (I:Inv X pins σ H s) (hu:X.A.units+80 < cLine) {a b:Addr} {ns ms:List Int} (ha:SqL X.K H a (ns.map V.int)) (hb:SqL X.K H b (ms.map V.int)):SeqAt.EqAt X.A.in1 s (.ref a) (.ref b) (decide (ns=ms)):=by
 obtain ⟨its,rv,p,_⟩:=I.list ha
 obtain ⟨its',rv',p',_⟩:=I.list hb
 exact PySem.W.keq_ints p.isList (intsAre_of rv) p'.isList (intsAre_of rv') (by show X.A.units+1+64 < cLine;omega)
end
structure LsAt {α:Type} (f:α→V) (H:Hp) (as:List Addr) (ws:List (List α)):Prop where
 len:as.length=ws.length
 row:∀ (i:Nat) a w,as[i]?=some a→ws[i]?=some w→H a=some (.lst (w.map f))
def hitU {α:Type} [DecidableEq α] (f:α→V) (H:Hp) (x:List α) (u:Value):Bool:=match u with
 | .ref a=>(match H a with
  | some (.lst xs)=>decide (xs=x.map f)
  | _=>false)
 | _=>false
theorem map_inj {α:Type} {f:α→V} (hf:∀ a b,f a=f b→a=b):∀ {x y:List α},x.map f=y.map f→x=y
 | [],[],_=>rfl
 | [],_ :: _,h=>by simp at h
 | _ :: _,[],h=>by simp at h
 | a :: x,b :: y,h=>by
  simp only [List.map_cons,List.cons.injEq] at h
  rw [hf _ _ h.1,map_inj hf h.2]
theorem hit_of {α:Type} [DecidableEq α] {f:α→V} (hf:∀ a b,f a=f b→a=b) {H:Hp} {x w:List α} {a:Addr} (h:H a=some (.lst (w.map f))):hitU f H x (.ref a)=decide (w=x):=by
 unfold hitU
 simp only [h]
 by_cases e:w=x
 ·subst e;simp
 ·rw [decide_eq_false e]
  exact decide_eq_false fun z=>e (map_inj hf z)
theorem LsAt.any {α:Type} [DecidableEq α] {f:α→V} (hf:∀ a b,f a=f b→a=b) {H:Hp} (x:List α):∀ {as:List Addr} {ws:List (List α)},LsAt f H as ws→(as.map Value.ref).any (hitU f H x)=decide (x∈ws)
 | [],[],_=>by simp
 | [],_ :: _,l=>by have:=l.len;simp at this
 | _ :: _,[],l=>by have:=l.len;simp at this
 | a :: as,w :: ws,l=>by
  have h0:=l.row 0 a w rfl rfl
  have lr:LsAt f H as ws:=⟨by have:=l.len;simpa using this,fun i b v h1 h2=>l.row (i+1) b v (by simpa using h1) (by simpa using h2)⟩
  rw [List.map_cons,List.any_cons,hit_of hf h0,LsAt.any hf x lr]
  by_cases e:w=x
  ·subst e;simp
  ·have:¬ x=w:=fun z=>e z.symm
   simp [e,this]
theorem LsAt.mem {α:Type} {f:α→V} {H:Hp} {as:List Addr} {ws:List (List α)} (l:LsAt f H as ws) {a:Addr} (h:a∈as):∃ w∈ws,H a=some (.lst (w.map f)):=by
 obtain ⟨i,hi⟩:=List.getElem?_of_mem h
 have hl:i < ws.length:=by rw [← l.len];exact (List.getElem?_eq_some_iff.mp hi).1
 exact ⟨_,List.getElem_mem hl,l.row i a _ hi (List.getElem?_eq_getElem hl)⟩
def rInL (K:PySem.W.Frag) {α:Type} [DecidableEq α] (f:α→V) (neg:Bool):R2:=fun x y H Q=>∃ (b p:Addr) (w:List α) (as:List Addr) (ws:List (List α)),x=.ref b∧y=.ref p∧SqL K H b (w.map f)∧SqL K H p (as.map V.ref)∧LsAt f H as ws∧Q (.bl (if neg then !decide (w∈ws) else decide (w∈ws))) H
section
variable {X:Cx}
theorem in_core {α:Type} [DecidableEq α] {f:α→V} (hf:∀ a b,f a=f b→a=b)
  (heq:∀ {pins:List (Addr×Obj)} {σ:St} {H:Hp} {s:Shared} {a b:Addr} {ns ms:List α},Inv X pins σ H s→SqL X.K H a (ns.map f)→SqL X.K H b (ms.map f)→SeqAt.EqAt X.A.in1 s (.ref a) (.ref b) (decide (ns=ms))) :
  OpR X (compareOp .In) (rInL X.K f false)∧OpR X (compareOp .NotIn) (rInL X.K f true):=by
 have hits:∀ {pins:List (Addr×Obj)} {σ:St} {H:Hp} {s:Shared} {b:Addr} {w:List α} {as:List Addr} {ws:List (List α)},Inv X pins σ H s→SqL X.K H b (w.map f)→LsAt f H as ws→∀ y∈as.map Value.ref,SeqAt.EqAt X.A.in1 s y (.ref b) (hitU f H w y):=by
  intro pins σ H s b w as ws I hb l y hy
  obtain ⟨a,ha,rfl⟩:=List.mem_map.mp hy
  obtain ⟨v,_,hv⟩:=l.mem ha
  rw [hit_of hf hv]
  exact heq I (SqL.of hv) hb
 constructor
 ·intro pins s σ H x y v u Q I rx ry h
  obtain ⟨b,p,w,as,ws,rfl,rfl,hb,hp,l,q⟩:=h
  cases rx;cases ry
  obtain ⟨its,r,pl,hz⟩:=I.list hp
  rw [vals_refs r] at pl
  refine SeqAt.in_listAt (hitU f H w) pl.isList (fun y hy=>hits I hb l y (by simpa using hy)) ⟨.bl _,H,I,rfl,?_⟩
  rw [show ((as.map Value.ref).toArray.any (hitU f H w))=(as.map Value.ref).any (hitU f H w) by simp,l.any hf]
  exact q
 ·intro pins s σ H x y v u Q I rx ry h
  obtain ⟨b,p,w,as,ws,rfl,rfl,hb,hp,l,q⟩:=h
  cases rx;cases ry
  obtain ⟨its,r,pl,hz⟩:=I.list hp
  rw [vals_refs r] at pl
  refine SeqAt.notIn_listAt (hitU f H w) pl.isList (fun y hy=>hits I hb l y (by simpa using hy)) ⟨.bl _,H,I,rfl,?_⟩
  rw [show ((as.map Value.ref).toArray.any (hitU f H w))=(as.map Value.ref).any (hitU f H w) by simp,l.any hf]
  exact q
theorem op_notinWK (K:PySem.W.Frag) (hu:X.A.units+80 < cLine) (hK:X.K=K:=by rfl):OpR X (compareOp .NotIn) (rInL K V.int true):=by
 subst hK;exact (in_core (fun a b h=>by injection h) fun I ha hb=>eqat_ints I hu ha hb).2
end
def stepV {α:Type} (xs:List α) (n:Nat):List α:=(List.range ((xs.length+n - 1) / n)).filterMap fun k=>xs[n * k]?
theorem vals_pick {xs:List V} {us:List Value} (r:Vals xs us):∀ ks:List Nat,Vals (ks.filterMap fun k=>xs[k]?) (ks.filterMap fun k=>us[k]?)
 | []=>.nil
 | k :: ks=>by
  cases hx:xs[k]? with
  | none =>
   have hu:=r.none_of hx
   rw [List.filterMap_cons_none hx,List.filterMap_cons_none hu]
   exact vals_pick r ks
  | some x =>
   obtain ⟨u,hu,ru⟩:=r.get hx
   rw [List.filterMap_cons_some hx,List.filterMap_cons_some hu]
   exact .cons ru (vals_pick r ks)
theorem stepV_map {α:Type} (xs:List α) (n:Nat):stepV xs n=((List.range ((xs.length+n - 1) / n)).map fun k=>n * k).filterMap fun k=>xs[k]?:=by
 unfold stepV;rw [List.filterMap_map];rfl
theorem pick_step (its:List Value) {n:Nat} (hn:0 < n):slicePick its.toArray none none (some (n:Int))=(stepV its n).toArray:=by
 have hb:sliceBounds none none (some (n:Int)) its.toArray.size=(0,(its.length:Int),(n:Int)):=by
  unfold sliceBounds
  have h:((n:Int) > 0):=by omega
  simp only [Option.getD_some,if_pos h,List.size_toArray]
 unfold slicePick
 rw [hb]
 have hr:sliceRange 0 (its.length:Int) (n:Int)=(List.range ((its.length+n - 1) / n)).map fun k=>n * k:=by
  unfold sliceRange
  have h:((n:Int) > 0):=by omega
  simp only [h,if_true]
  have hc:(if (0:Int) < (its.length:Int) then ((its.length:Int) - 0+(n:Int) - 1) / (n:Int) else 0).toNat=(its.length+n - 1) / n:=by
   by_cases h0:its.length=0
   ·rw [h0]
    simp only [Nat.zero_add]
    rw [if_neg (by simp),Nat.div_eq_of_lt (by omega)];rfl
   ·rw [if_pos (by omega)]
    have e:(its.length:Int) - 0+(n:Int) - 1=((its.length+n - 1:Nat):Int):=by omega
    rw [e,← Int.natCast_ediv,Int.toNat_natCast]
  rw [hc]
  refine List.map_congr_left fun k _=>?_
  have e:(0:Int)+(n:Int) * (k:Int)=((n * k:Nat):Int):=by rw [Int.natCast_mul];omega
  rw [e,Int.toNat_natCast]
 rw [hr,stepV_map]
 congr 1
 congr 1
 funext k
 simp
theorem filterMap_all {α β:Type} {f:α→Option β} {g:α→β}:∀ {l:List α},(∀ x∈l,f x=some (g x))→l.filterMap f=l.map g
 | [],_=>rfl
 | a :: l,h=>by
  rw [List.filterMap_cons_some (h a List.mem_cons_self),List.map_cons,filterMap_all fun x hx=>h x (List.mem_cons_of_mem _ hx)]
theorem stepV_get {α:Type} [Inhabited α] {xs:List α} {n m:Nat} (hn:0 < n) (hl:xs.length=m * n):stepV xs n=(List.range m).map fun k=>xs.getD (n * k) default:=by
 unfold stepV
 have hc:(xs.length+n - 1) / n=m:=by
  rw [hl]
  have:m * n+n - 1=(n - 1)+m * n:=by omega
  rw [this,Nat.add_mul_div_right _ _ hn,Nat.div_eq_of_lt (by omega),Nat.zero_add]
 rw [hc]
 refine filterMap_all fun k hk=>?_
 have hk':=List.mem_range.mp hk
 have hlt:n * k < xs.length:=by
  rw [hl,Nat.mul_comm m n]
  exact Nat.mul_lt_mul_of_pos_left hk' hn
 rw [List.getD_eq_getElem?_getD,List.getElem?_eq_getElem hlt];rfl
def tSlN (K:PySem.W.Frag) (te ts:TE):TE:=fun σ H Q=>te σ H fun x H1=>ts σ H1 fun y H2=>∃ (a:Addr) (xs:List V) (n:Nat),x=.ref a∧y=.int (n:Int)∧0 < n∧SqL K H2 a xs∧∀ p,H2 p=none→Q (.ref p) (upd H2 p (.lst (stepV xs n)))
theorem stepV_len {α:Type} (xs:List α) (n:Nat):(stepV xs n).length≤(xs.length+n - 1) / n:=by
 unfold stepV
 exact Nat.le_trans (List.length_filterMap_le _ _) (by rw [List.length_range];exact Nat.le_refl _)
section
variable {X:Cx}
theorem pe_sliceN (K:PySem.W.Frag) {e st:Expr} {te ts:TE} {p2 pos:Pos} (he:PE X e te) (hst:PE X st ts) (hK:X.K=K:=by rfl):PE X (.Subscript e (.Slice none none (some st) p2) pos) (tSlN K te ts):=by
 subst hK
 intro pins s σ H Q I h
 refine Subscript_ (thn (he pins s σ H _ I h) fun v s1 ⟨x,H1,I1,r1,q1⟩=>?_)
 refine wpAny_Slice ?_
 rw [evalPart_none]
 refine wpAny_pure (wpAny_pure ?_)
 rw [evalPart_some]
 refine thn (hst pins s1 σ H1 _ I1 q1) fun vs s3 ⟨y,H3,I3,r3,a,xs,n,ex,ey,hn,hx,q3⟩=>?_
 subst ex ey
 cases r1
 obtain ⟨tk,rfl⟩:=r3
 have I4:Inv X pins σ H3 { s3 with heap:=s3.heap.push { cls:=.type "slice",data:=.fields #[.none,.none,.int (n:Int) tk] } }:=I3.kept (t':=s3.toks) fun b ob q=>Heap.get?_push_of_some _ q
 obtain ⟨its,r,ht,hz⟩:=I4.list hx
 have hlen:=r.length
 show wpAny (model X.prog X.w) X.A (subscriptTail e (.Slice none none (some st) p2) (.ref a) (.ref s3.heap.objs.size)) (EP X pins σ Q) X.xe { s3 with heap:=s3.heap.push { cls:=.type "slice",data:=.fields #[.none,.none,.int (n:Int) tk] } }
 refine tail_any (ops:=[.ref a,.ref s3.heap.objs.size]) ht.isList.typeIs slot_list_getitem.lookup ?_ (by with_unfolding_all rfl)
 refine wpAny_getItem_list_slice ht.isList (Heap.IsSliceOf.new ..) .none .none (.int (n:Int) tk) (by intro z;injection z with z;omega) ?_ (by rw [List.size_toArray];omega)
 rw [pick_step _ hn]
 refine ⟨.ref _,_,I4.laid (t':=s3.toks) (o:=.lst (stepV xs n)) (fun b ob q=>Heap.get?_push_of_some _ q) (Nat.le_refl _) ?_,rfl,q3 _ (I4.hok.fresh (Nat.le_refl _))⟩
 refine ⟨Nat.le_trans (stepV_len xs n) (Nat.le_trans ?_ hz),_,0,?_,Heap.get?_push_size _ rfl⟩
 ·by_cases h0:xs.length=0
  ·rw [h0,Nat.div_eq_of_lt (by omega)];exact Nat.le_refl _
  ·refine Nat.div_le_of_le_mul ?_
   have:xs.length+n - 1≤n * xs.length:=by
    have h1:1≤xs.length:=by omega
    obtain ⟨m,hm⟩:∃ m,xs.length=m+1:=⟨xs.length - 1,by omega⟩
    rw [hm,Nat.mul_succ]
    have:m≤n * m:=Nat.le_mul_of_pos_left m hn
    omega
   exact this
 ·rw [stepV_map,stepV_map,hlen]
  exact vals_pick r _
end
section
variable {σ:St} {H:Hp} {Q:VK} {te ts ty td tv:TE} {E:Ends}
theorem r_slN {K:PySem.W.Frag} (h:te σ H fun x H1=>ts σ H1 fun y H2=>∃ (a:Addr) (xs:List V) (n:Nat),x=.ref a∧y=.int (n:Int)∧0 < n∧SqL K H2 a xs∧∀ p,H2 p=none→Q (.ref p) (upd H2 p (.lst (stepV xs n)))):tSlN K te ts σ H Q:=h
variable {P:Program} {w:World} {κ:Type} [DecidableEq κ] {D:KD P w κ}
theorem r_dnewG (h:∀ p,H p=none→DG D (upd H p (.ext (DGAt D p []))) p []→Q (.ref p) (upd H p (.ext (DGAt D p [])))):tDNewG D σ H Q:=h
theorem r_gnotin (h:ty σ H fun y H1=>td σ H1 fun x H2=>∃ a b k kvs,x=.ref a∧y=.ref b∧D.ok H2 k b∧DG D H2 a kvs∧Q (.bl (!(valV kvs k).isSome)) H2):tGNotIn D ty td σ H Q:=h
theorem r_gget (h:td σ H fun x H1=>ty σ H1 fun y H2=>∃ a b k kvs v,x=.ref a∧y=.ref b∧D.ok H2 k b∧DG D H2 a kvs∧valV kvs k=some v∧Q v H2):tGGet D td ty σ H Q:=h
theorem r_gput (h:tv σ H fun v H1=>td σ H1 fun x H2=>ty σ H2 fun y H3=>∃ a b k kvs,x=.ref a∧y=.ref b∧D.ok H3 k b∧DG D H3 a kvs∧kvs.length < sizeLine ∧
 ∀ H4,(∀ c,c≠a→H4 c=H3 c)→DG D H4 a (putK kvs k v)→E.nx σ H4):sGPut D td ty tv E σ H:=h
theorem r_sfldaug {K:PySem.W.Frag} {ta:TE} {rd:V→V→Hp→VK→Prop} {f:Str} (h:ta σ H fun x H1=>∃ a C dx fs v,x=.ref a∧H1 a=some (.ins C dx fs)∧Cls K C∧NoAttr K C f∧fs.lookup f=some v ∧
 tv σ H1 fun y H2=>rd v y H2 fun z H3=>∃ dx' fs',H3 a=some (.ins C dx' fs')∧fs'.length < 1000∧E.nx σ (upd H3 a (.ins C dx' (putF f z fs')))):sFldAug K ta tv rd f E σ H:=h
end
section
variable {X:Cx}
theorem ps_fldaugK (K:PySem.W.Frag) {o value:Expr} {f:Str} {pos tpos:Pos} {ta tv:TE} {op:Operator} {rd:V→V→Hp→VK→Prop} (ha:PE X o ta) (hv:PE X value tv) (hop:InOp X op rd) (hK:X.K=K:=by rfl):PS X (.AugAssign (.Attribute o f tpos) op value pos) (sFldAug K ta tv rd f):=by subst hK;exact ps_fldaug ha hv hop
end
theorem pc_op {X:Cx} {op:CmpOp} {r:R2} {a b:Expr} {ta tb:TE} (h:OpR X (compareOp op) r) (ha:PE X a ta) (hb:PE X b tb):PC X op a b (tOp r ta tb):=by
 intro pins s σ H Q I hw
 refine thn (ha pins s σ H _ I hw) fun u s1 ⟨x,H1,I1,rx,q1⟩=>thn (hb pins s1 σ H1 _ I1 q1) fun v s2 ⟨y,H2,I2,ry,q2⟩=>?_
 exact h pins s2 σ H2 x y u v Q I2 rx ry q2
end L2
namespace My
end My
namespace My
end My
namespace L2
open PySem PySem.Spec PyProof.Rows
end L2
namespace L2
open PySem PySem.Spec PyProof.Rows
end L2
namespace L2
open PySem PySem.Spec PyProof.Rows
theorem star_lst {xs:List Expr} {p:Pos} {es:List Expr} {env:PySem.Env}:starEach (.List xs p :: es) env=(false,eval (.List xs p) env) :: starEach es env:=by rfl
def ZipOut (h:Heap) (z TI TO T:Addr) (fl:Bool):Prop:=h.get? z=some { cls:=.type "zip",data:=.fields #[rawInt (T:Nat),.bool fl,.bool false,.ref TI,.ref TO] }
section
variable {prog:Program} {w:World} {A:Around} {E:Value→Shared→Prop} {s:Shared} {z TI TO T i1 i2 l1 l2:Addr} {k1 k2:Nat} {xs ys:Array Value} {x y:Value} {fl:Bool} {ot:Obj}
theorem alive_of {M:Model} {a:Addr} {o:Obj} {Q:Option Obj→Shared→Prop} (ho:s.heap.get? a=some o) (h:Q (some o) s):wpAny M A (loadIfAlive a) Q E s:=by
 intro Γ p hp
 unfold loadIfAlive
 rw [Sem.wp_loadIfAlive,ho]
 exact h
theorem free_not {Q:Bool→Shared→Prop} (hz:ZipOut s.heap z TI TO T fl) (ha:s.heap.get? T=some ot) (h:∀ h',ZipOut h' z TI TO T true→Heap.SameBut z s.heap h'→Q false { s with heap:=h' }):wpAny (model prog w) A (Builtin.SmallTypes.ownedTupleIsFree (.ref z)) Q E s:=by
 unfold Builtin.SmallTypes.ownedTupleIsFree
 refine wpAny_bind (wpAny_field hz rfl (x:=rawInt (T:Nat)) rfl ?_)
 show wpAny _ _ (loadIfAlive (((T:Nat):Int).toNat) >>= _) _ _ _
 rw [Int.toNat_natCast]
 refine wpAny_bind (alive_of ha ?_)
 show wpAny _ _ (field (.ref z) 1 >>= _) _ _ _
 refine wpAny_bind (wpAny_field hz rfl (x:=.bool fl) rfl ?_)
 cases fl with
 | true=>exact wpAny_pure (h _ hz ⟨rfl,fun _ _=>rfl⟩)
 | false =>
  show wpAny _ _ (setField (.ref z) 1 (.bool true) >>= _) _ _ _
  refine wpAny_bind (wpAny_setField_rec hz (by simp) fun u f k=>?_)
  exact wpAny_pure (h u f k)
theorem zip_more {Q:Option Value→Shared→Prop} (hz:ZipOut s.heap z TI TO T fl) (ha:s.heap.get? T=some ot) (hTI:IsPair s.heap TI (.ref i1) (.ref i2)) (h1:s.heap.IsListIter i1 l1 k1) (h2:s.heap.IsListIter i2 l2 k2) (hl1:s.heap.IsList l1 xs) (hl2:s.heap.IsList l2 ys) (hx:xs[k1]?=some x) (hy:ys[k2]?=some y) (D:ZipApart z TI TO i1 i2 l1 l2)
  (hQ:∀ h',ZipOut h' z TI TO T true→h'.IsListIter i1 l1 (k1+1)→h'.IsListIter i2 l2 (k2+1)→IsPair h' s.heap.objs.size x y→h'.objs.size=s.heap.objs.size+1→(∀ c o,c≠z→c≠i1→c≠i2→s.heap.get? c=some o→h'.get? c=some o)→Q (some (.ref s.heap.objs.size)) { s with heap:=h' }):wpAny (model prog w) A (pyNext (.ref z)) Q E s:=by
 have hT:s.TypeIs (.ref z) "zip":=⟨_,hz,rfl⟩
 unfold pyNext
 refine wpAny_bind (wpAny_attempt (wpAny_callSpecial?_slot hT F.slot_zip_next (wpAny_call_entry F.slot_zip_next hT F.entry_zip_next ?_ (F.args_zip_next_1 (.ref z)))))
 unfold Builtin.«zip.__next__»
 refine wpAny_bind (wpAny_pure ?_)
 refine wpAny_bind (wpAny_field hz rfl (x:=.bool false) rfl ?_)
 refine wpAny_bind (wpAny_field hz rfl (x:=.ref TI) rfl ?_)
 refine wpAny_bind (wpAny_seqItems hTI rfl ?_)
 simp only [show (#[Value.ref i1,Value.ref i2].isEmpty)=false from rfl,Bool.false_eq_true,if_false]
 refine wpAny_bind (free_not hz ha fun u1 hz1 sb1=>?_)
 simp only [Bool.false_eq_true,if_false]
 rw [← Array.forIn_toList]
 simp only [List.forIn_cons,List.forIn_nil]
 have s1':Shared.heap { s with heap:=u1 }=u1:=rfl
 have g1:u1.IsListIter i1 l1 k1:=h1.at fun o e=>(sb1.2 i1 D.i1z).trans e
 have g2:u1.IsListIter i2 l2 k2:=h2.at fun o e=>(sb1.2 i2 D.i2z).trans e
 have f1:u1.IsList l1 xs:=by obtain ⟨o,e,q⟩:=hl1;exact ⟨o,(sb1.2 l1 D.l1z).trans e,q⟩
 have f2:u1.IsList l2 ys:=by obtain ⟨o,e,q⟩:=hl2;exact ⟨o,(sb1.2 l2 D.l2z).trans e,q⟩
 refine wpAny_bind (wpAny_bind (wpAny_bind (wpAny_holding ?_)))
 show wpAny _ _ (Builtin.SmallTypes.nextOf (.ref i1) >>= fun v=>pure (some v)) _ _ _
 refine wpAny_bind (wpAny_nextOf_list_item (s:={ s with heap:=u1 }) g1 f1 hx fun u2 g1' sb2=>?_)
 replace sb2:Heap.SameBut i1 u1 u2:=sb2
 have g2':u2.IsListIter i2 l2 k2:=g2.at fun o e=>(sb2.2 i2 (Ne.symm D.i12)).trans e
 have f2':u2.IsList l2 ys:=by obtain ⟨o,e,q⟩:=f2;exact ⟨o,(sb2.2 l2 D.l2i1).trans e,q⟩
 refine wpAny_pure (wpAny_pure ?_)
 refine wpAny_bind (wpAny_bind (wpAny_holding ?_))
 show wpAny _ _ (Builtin.SmallTypes.nextOf (.ref i2) >>= fun v=>pure (some v)) _ _ _
 refine wpAny_bind (wpAny_nextOf_list_item (s:={ s with heap:=u2 }) g2' f2' hy fun u3 g2'' sb3=>?_)
 replace sb3:Heap.SameBut i2 u2 u3:=sb3
 refine wpAny_pure (wpAny_pure (wpAny_pure ?_))
 show wpAny _ _ (newTuple [x,y] >>= fun v=>ret v) _ _ _
 refine wpAny_bind (wpAny_newTuple (wpAny_pure ⟨_,rfl,wpAny_pure ?_⟩))
 have z3:u3.objs.size=s.heap.objs.size:=by rw [sb3.1,sb2.1,sb1.1]
 show Q (some (.ref u3.objs.size)) _
 have g1'':u3.IsListIter i1 l1 (k1+1):=g1'.at fun o e=>(sb3.2 i1 D.i12).trans e
 have hz3:ZipOut u3 z TI TO T true:=((sb3.2 z (Ne.symm D.i2z)).trans ((sb2.2 z (Ne.symm D.i1z)).trans hz1))
 rw [z3]
 have pk:∀ c o,u3.get? c=some o→(u3.push { cls:=.type "tuple",data:=.seq #[x,y] }).get? c=some o:=fun c o e=>Heap.get?_push_of_some _ e
 refine hQ _ (pk _ _ hz3) (g1''.at fun o e=>pk _ _ e) (g2''.at fun o e=>pk _ _ e) ?_ ?_ fun c o c1 c2 c3 e=>pk _ _ ?_
 ·rw [← z3];exact Heap.get?_push_size _ rfl
 ·rw [Heap.size_push,z3]
 ·exact (sb3.2 c c3).trans ((sb2.2 c c2).trans ((sb1.2 c c1).trans e))
theorem zip_over {Q:Option Value→Shared→Prop} (hh:A.handled=none) (hz:ZipOut s.heap z TI TO T fl) (ha:s.heap.get? T=some ot) (hTI:IsPair s.heap TI (.ref i1) (.ref i2)) (h1:s.heap.IsListIter i1 l1 k1) (hl1:s.heap.IsList l1 xs) (hx:xs[k1]?=none) (D:ZipApart z TI TO i1 i2 l1 l2)
  (hQ:∀ h',(∀ c o,c≠z→c≠i1→s.heap.get? c=some o→h'.get? c=some o)→Q none { s with heap:=h' }):wpAny (model prog w) A (pyNext (.ref z)) Q E s:=by
 have hT:s.TypeIs (.ref z) "zip":=⟨_,hz,rfl⟩
 unfold pyNext
 refine wpAny_bind (wpAny_attempt (wpAny_callSpecial?_slot hT F.slot_zip_next (wpAny_call_entry F.slot_zip_next hT F.entry_zip_next ?_ (F.args_zip_next_1 (.ref z)))))
 unfold Builtin.«zip.__next__»
 refine wpAny_bind (wpAny_pure ?_)
 refine wpAny_bind (wpAny_field hz rfl (x:=.bool false) rfl ?_)
 refine wpAny_bind (wpAny_field hz rfl (x:=.ref TI) rfl ?_)
 refine wpAny_bind (wpAny_seqItems hTI rfl ?_)
 simp only [show (#[Value.ref i1,Value.ref i2].isEmpty)=false from rfl,Bool.false_eq_true,if_false]
 refine wpAny_bind (free_not hz ha fun u1 hz1 sb1=>?_)
 simp only [Bool.false_eq_true,if_false]
 rw [← Array.forIn_toList]
 simp only [List.forIn_cons,List.forIn_nil]
 have g1:u1.IsListIter i1 l1 k1:=h1.at fun o e=>(sb1.2 i1 D.i1z).trans e
 have f1:u1.IsList l1 xs:=by obtain ⟨o,e,q⟩:=hl1;exact ⟨o,(sb1.2 l1 D.l1z).trans e,q⟩
 refine wpAny_bind (wpAny_bind (wpAny_bind (wpAny_holding ?_)))
 show wpAny _ _ (Builtin.SmallTypes.nextOf (.ref i1) >>= fun v=>pure (some v)) _ _ _
 refine wpAny_bind (wpAny_nextOf_list_end (s:={ s with heap:=u1 }) (show A.in1.handled=none from hh) g1 f1 hx fun u2 e eb he=>?_)
 obtain ⟨o,ho,hc⟩:=he
 refine wpAny_bind (wpAny_isInstance (T:="StopIteration") (b:=true) ⟨o,ho,hc⟩ isSubtype_stop (wpAny_pure (hQ u2 fun c o c1 c2 e=>eb c o c2 ((sb1.2 c c1).trans e))))
theorem zip_hint {Q:Bool→Shared→Prop} (hT:s.TypeIs (.ref z) "zip") (h:Q true s):wpAny (model prog w) A (Builtin.List.listLengthHint (.ref z)) Q E s:=by
 unfold Builtin.List.listLengthHint
 unfold specialOf
 refine wpAny_bind (wpAny_bind (wpAny_typeOf hT ?_))
 have e:typeLookup (Value.type "zip") (Str.ofString "__len__")=pure none:=rfl
 rw [e]
 refine wpAny_pure ?_
 show wpAny _ _ ((typeOf (.ref z) >>= fun t=>typeLookup t (Str.ofString "__length_hint__")) >>= _) _ _ _
 refine wpAny_bind (wpAny_bind (wpAny_typeOf hT ?_))
 have e2:typeLookup (Value.type "zip") (Str.ofString "__length_hint__")=pure none:=rfl
 rw [e2]
 exact wpAny_pure (wpAny_pure h)
structure ZSt (h:Heap) (TI i1 i2 l1 l2:Addr) (xs ys:Array Value) (i:Nat) (ts:List Addr):Prop where
 ti:IsPair h TI (.ref i1) (.ref i2)
 a1:h.IsListIter i1 l1 i
 a2:h.IsListIter i2 l2 i
 b1:h.IsList l1 xs
 b2:h.IsList l2 ys
 tl:ts.length=i
 tp:∀ (j:Nat) t x y,ts[j]?=some t→xs[j]?=some x→ys[j]?=some y→IsPair h t x y
theorem zip_loop {R:Result→Shared→Prop} (hh:A.handled=none) (D:ZipApart z TI TO i1 i2 l1 l2) (hsz:ys.size=xs.size) (hn:xs.size≤1000) (S:Addr) (nS:S∉[z,TI,TO,i1,i2,l1,l2]) (res:Value) :
  ∀ (k i:Nat) (s:Shared) (ts:List Addr) (c:Nat) (fl:Bool) (T:Addr),xs.size - i=k→i≤xs.size→ZSt s.heap TI i1 i2 l1 l2 xs ys i ts→ts[0]?=some T→ZipOut s.heap z TI TO T fl→ts.Nodup→(∀ t∈ts,t∉[S,z,i1,i2])→s.heap.get? S=some { cls:=.type "list",data:=.seq (ts.map Value.ref).toArray c } →
   (∀ (h':Heap) (ts':List Addr) (c':Nat),(∀ b o,b≠S→b≠z→b≠i1→b≠i2→s.heap.get? b=some o→h'.get? b=some o)→h'.get? S=some { cls:=.type "list",data:=.seq (ts'.map Value.ref).toArray c' }→ts'.length=xs.size→(∀ (j:Nat) t x y,ts'[j]?=some t→xs[j]?=some x→ys[j]?=some y→IsPair h' t x y)→ts'.Nodup→(∀ t∈ts',t∈ts∨s.heap.objs.size≤t)→R (.ok (.ret res)) { s with heap:=h' }) →
   codeAny (model prog w) A (Code.builtin "list.extend.loop" { pos:=[.ref S,.ref z,res] }) R s:=by
 simp only [List.mem_cons,List.not_mem_nil,or_false,not_or] at nS
 obtain ⟨Sz,STI,STO,Si1,Si2,Sl1,Sl2⟩:=nS
 intro k
 induction k with
 | zero =>
  intro i s ts c fl T hk hi Z h0 hz nd hts hS hR
  have hi':i=xs.size:=by omega
  have hal:∃ o,s.heap.get? T=some o:=by
   have h1:0 < ts.length:=(List.getElem?_eq_some_iff.mp h0).1
   have h2:0 < xs.size:=by have:=Z.tl;omega
   have h3:0 < ys.size:=by omega
   exact ⟨_,Z.tp 0 T xs[0] ys[0] h0 (Array.getElem?_eq_getElem h2) (Array.getElem?_eq_getElem h3)⟩
  obtain ⟨oT,hT⟩:=hal
  refine codeAny_builtin F.entry_extend_loop ?_
  rw [Around.under_plainId F.plain_extend_loop]
  refine wpAny_bind (zip_over (A:=A.in1) hh hz hT Z.ti Z.a1 Z.b1 (by rw [hi'];simp) D fun h' kp=>?_)
  refine wpAny_pure ?_
  exact hR h' ts c (fun b o _ b2 b3 _ e=>kp b o b2 b3 e) (kp _ _ Sz Si1 hS) (by rw [Z.tl,hi']) (fun j t x y e1 e2 e3=>kp _ _ (fun q=>hts t (List.mem_of_getElem? e1) (by simp [q])) (fun q=>hts t (List.mem_of_getElem? e1) (by simp [q])) (Z.tp j t x y e1 e2 e3)) nd (fun t ht=>.inl ht)
 | succ k ih =>
  intro i s ts c fl T hk hi Z h0 hz nd hts hS hR
  have hlt:i < xs.size:=by omega
  have hlt2:i < ys.size:=by omega
  have hal:∃ o,s.heap.get? T=some o:=by
   have h1:0 < ts.length:=(List.getElem?_eq_some_iff.mp h0).1
   exact ⟨_,Z.tp 0 T xs[0] ys[0] h0 (Array.getElem?_eq_getElem (by omega)) (Array.getElem?_eq_getElem (by omega))⟩
  obtain ⟨oT,hT⟩:=hal
  refine codeAny_builtin F.entry_extend_loop ?_
  rw [Around.under_plainId F.plain_extend_loop]
  refine wpAny_bind (zip_more (A:=A.in1) hz hT Z.ti Z.a1 Z.a2 Z.b1 Z.b2 (Array.getElem?_eq_getElem hlt) (Array.getElem?_eq_getElem hlt2) D fun h1 z1 c1 c2 pr hsize kp=>?_)
  have lt:∀ b o,s.heap.get? b=some o→b < s.heap.objs.size:=fun b o e=>Heap.lt_size e
  have hS1:h1.get? S=some { cls:=.type "list",data:=.seq (ts.map Value.ref).toArray c }:=kp _ _ Sz Si1 Si2 hS
  have nT:s.heap.objs.size≠S:=Nat.ne_of_gt (lt _ _ hS)
  show wpAny _ _ (updateSeq S (fun x=>x.push (.ref s.heap.objs.size)) >>= _) _ _ _
  refine wpAny_bind (wpAny_updateSeq (s:={ s with heap:=h1 }) hS1 rfl ?_ (by simp only [List.size_toArray,List.length_map];rw [Z.tl,sizeLine_eq];omega) (by simp only [Array.size_push,List.size_toArray,List.length_map];rw [Z.tl,sizeLine_eq];omega))
  refine wpAny_pure ⟨plainId_quiet F.plain_extend_loop _,?_⟩
  have sb:∀ b,b≠S→(h1.update S (Obj.mapSeq fun x=>x.push (.ref s.heap.objs.size))).get? b=h1.get? b:=fun b hb=>Heap.get?_update_other h1 _ (Ne.symm hb)
  have kall:∀ b o,b≠S→b≠z→b≠i1→b≠i2→s.heap.get? b=some o→(h1.update S (Obj.mapSeq fun x=>x.push (.ref s.heap.objs.size))).get? b=some o:=fun b o b0 b1 b2 b3 e=>(sb b b0).trans (kp b o b1 b2 b3 e)
  have sz2:(h1.update S (Obj.mapSeq fun x=>x.push (.ref s.heap.objs.size))).objs.size=s.heap.objs.size+1:=by
   rw [← hsize];exact (Heap.SameBut.update h1 S _).1
  have fresh:s.heap.objs.size∉[S,z,i1,i2]:=by
   simp only [List.mem_cons,List.not_mem_nil,or_false,not_or]
   obtain ⟨o1,e1,_⟩:=Z.a1
   obtain ⟨o2,e2,_⟩:=Z.a2
   exact ⟨nT,Nat.ne_of_gt (lt _ _ hz),Nat.ne_of_gt (lt _ _ e1),Nat.ne_of_gt (lt _ _ e2)⟩
  have hup:=Heap.get?_update_self (Obj.mapSeq fun x=>x.push (.ref s.heap.objs.size)) hS1 rfl
  refine ih (i+1) { s with heap:=h1.update S (Obj.mapSeq fun x=>x.push (.ref s.heap.objs.size)) } (ts++[s.heap.objs.size]) (c+1) true T (by omega) (by omega) ⟨kall _ _ (Ne.symm STI) D.TIz D.TIi1 D.TIi2 Z.ti,c1.at fun o e=>(sb _ (Ne.symm Si1)).trans e,c2.at fun o e=>(sb _ (Ne.symm Si2)).trans e,?_,?_,by simp [Z.tl],fun j t x y e1 e2 e3=>?_⟩ ?_ ((sb _ (Ne.symm Sz)).trans z1) (nd_snoc nd fun hm=>?_) (fun t ht=>?_) ?_ (fun h' ts' c' k' hS' hl' hp' nd' hn'=>?_)
  ·obtain ⟨o,e,q⟩:=Z.b1;exact ⟨o,kall _ _ (Ne.symm Sl1) D.l1z D.l1i1 D.l1i2 e,q⟩
  ·obtain ⟨o,e,q⟩:=Z.b2;exact ⟨o,kall _ _ (Ne.symm Sl2) D.l2z D.l2i1 D.l2i2 e,q⟩
  ·by_cases hj:j < ts.length
   ·rw [List.getElem?_append_left hj] at e1
    have m:=hts t (List.mem_of_getElem? e1)
    simp only [List.mem_cons,List.not_mem_nil,or_false,not_or] at m
    exact kall _ _ m.1 m.2.1 m.2.2.1 m.2.2.2 (Z.tp j t x y e1 e2 e3)
   ·have hl:=(List.getElem?_eq_some_iff.mp e1).1
    rw [List.length_append,List.length_singleton] at hl
    have hj2:j=ts.length:=by omega
    rw [hj2,List.getElem?_append_right (Nat.le_refl _),Nat.sub_self] at e1
    cases e1
    rw [hj2,Z.tl,Array.getElem?_eq_getElem hlt] at e2
    rw [hj2,Z.tl,Array.getElem?_eq_getElem hlt2] at e3
    cases e2;cases e3
    exact (sb _ nT).trans pr
  ·rw [List.getElem?_append_left (List.getElem?_eq_some_iff.mp h0).1];exact h0
  ·obtain ⟨j,hj⟩:=List.getElem?_of_mem hm
   have hl:=(List.getElem?_eq_some_iff.mp hj).1
   have hl2:=Z.tl
   exact Nat.lt_irrefl _ (lt _ _ (Z.tp j _ xs[j] ys[j] hj (Array.getElem?_eq_getElem (by omega)) (Array.getElem?_eq_getElem (by omega))))
  ·rcases List.mem_append.mp ht with h | h
   ·exact hts t h
   ·rw [List.mem_singleton.mp h];exact fresh
  ·refine hup.trans ?_
   simp [Obj.mapSeq]
  ·refine hR h' ts' c' (fun b o b0 b1 b2 b3 e=>k' b o b0 b1 b2 b3 (kall b o b0 b1 b2 b3 e)) hS' hl' hp' nd' fun t ht=>?_
   rcases hn' t ht with h | h
   ·rcases List.mem_append.mp h with h | h
    ·exact .inl h
    ·rw [List.mem_singleton.mp h];exact .inr (Nat.le_refl _)
   ·refine .inr ?_
    have h:(h1.update S (Obj.mapSeq fun x=>x.push (.ref s.heap.objs.size))).objs.size≤t:=h
    omega
theorem zip_list {Q:Value→Shared→Prop} (hh:A.handled=none) (D:ZipApart z TI TO i1 i2 l1 l2) (hz:IsZip s.heap z TI TO .none) (hTI:IsPair s.heap TI (.ref i1) (.ref i2)) (hTO:∃ a b,IsPair s.heap TO a b) (h1:s.heap.IsListIter i1 l1 0) (h2:s.heap.IsListIter i2 l2 0) (hl1:s.heap.IsList l1 xs) (hl2:s.heap.IsList l2 ys) (hsz:ys.size=xs.size) (hn:xs.size≤1000) (h0:0 < xs.size)
  (hQ:∀ (h':Heap) (ts:List Addr) (c:Nat),(∀ b o,b≠z→b≠TO→b≠i1→b≠i2→s.heap.get? b=some o→h'.get? b=some o)→h'.get? s.heap.objs.size=some { cls:=.type "list",data:=.seq (ts.map Value.ref).toArray c }→ts.length=xs.size→(∀ (j:Nat) t x y,ts[j]?=some t→xs[j]?=some x→ys[j]?=some y→IsPair h' t x y)→ts.Nodup→(∀ t∈ts,s.heap.objs.size < t)→Q (.ref s.heap.objs.size) { s with heap:=h' }) :
  wpAny (model prog w) A (call (.type "list") [.ref z]) Q E s:=by
 refine callType_codes (Q₁:=fun obj s1=>obj=.ref s.heap.objs.size∧s1={ s with heap:=s.heap.push { cls:=.type "list",data:=.seq #[] } }) F.called_list (F.typeCall_list_1 (.ref z)) F.entry_list_init (code_list_new (.ref z) ⟨rfl,rfl⟩) ?_
 rintro obj s1 ⟨rfl,rfl⟩
 have hS:=Heap.get?_push_size s.heap (o:={ cls:=.type "list",data:=.seq #[] }) rfl
 refine ⟨⟨_,hS,rfl⟩,F.args_list_init_2 _ _,?_⟩
 have lt:∀ b o,s.heap.get? b=some o→b < s.heap.objs.size:=fun b o e=>Heap.lt_size e
 have pk:∀ b o,s.heap.get? b=some o→(s.heap.push { cls:=.type "list",data:=.seq #[] }).get? b=some o:=fun b o e=>Heap.get?_push_of_some _ e
 generalize e1:s.heap.push { cls:=.type "list",data:=.seq #[] }=u0 at hS pk
 have sz0:u0.objs.size=s.heap.objs.size+1:=by rw [← e1,Heap.size_push]
 show wpAny _ _ (do let old ← Builtin.List.listItems (.ref s.heap.objs.size);Builtin.List.listUpdate (.ref s.heap.objs.size) (fun x=>#[]);letGo old.toList.reverse;Builtin.List.listExtendWith (.ref s.heap.objs.size) (.ref z) .none) _ _ _
 have hT0:Shared.TypeIs { s with heap:=u0 } (.ref z) "zip":=⟨_,pk _ _ hz,rfl⟩
 refine wpAny_bind (wpAny_bind (wpAny_seqItems (s:={ s with heap:=u0 }) hS rfl (wpAny_pure ?_)))
 refine wpAny_bind (wpAny_updateSeq (s:={ s with heap:=u0 }) hS rfl ?_ (by simp [sizeLine_eq]) (by simp [sizeLine_eq]))
 have hS1:=Heap.get?_update_self (Obj.mapSeq fun x=>#[]) hS rfl
 have sb1:=Heap.SameBut.update u0 s.heap.objs.size (Obj.mapSeq fun x=>#[])
 generalize u0.update s.heap.objs.size (Obj.mapSeq fun x=>#[])=u1 at hS1 sb1
 refine wpAny_bind (wpAny_letGo ?_)
 have zn:z≠s.heap.objs.size:=Nat.ne_of_lt (lt _ _ hz)
 have hz1:IsZip u1 z TI TO .none:=(sb1.2 z zn).trans (pk _ _ hz)
 have hT1:Shared.TypeIs { s with heap:=u1 } (.ref z) "zip":=⟨_,hz1,rfl⟩
 unfold Builtin.List.listExtendWith
 refine wpAny_bind (wpAny_typeOf hT1 ?_)
 have nsr:(Builtin.List.listSameRef (.ref s.heap.objs.size) (.ref z) || Value.type "zip" == Value.type "list" || Value.type "zip" == Value.type "tuple")=false:=by
  have e:Builtin.List.listSameRef (.ref s.heap.objs.size) (.ref z)=false:=by
   show (s.heap.objs.size == z)=false
   exact beq_eq_false_iff_ne.mpr (Ne.symm zn)
  rw [e];rfl
 simp only [nsr,Bool.false_eq_true,if_false]
 refine wpAny_bind (wpAny_pyIter_zip (s:={ s with heap:=u1 }) hz1 ?_)
 refine wpAny_bind (wpAny_holding (zip_hint hT1 ?_))
 simp only [Bool.true_or,if_true]
 refine wpAny_bind (wpAny_rule ?_)
 unfold Builtin.List.listTouch
 refine wpAny_bind (wpAny_bind (wpAny_updateSeq (s:={ s with heap:=u1 }) hS1 rfl ?_ (by simp [sizeLine_eq]) (by simp [sizeLine_eq])))
 have hS2:=Heap.get?_update_self (Obj.mapSeq fun x=>x.push Value.none) hS1 rfl
 have sb2:=Heap.SameBut.update u1 s.heap.objs.size (Obj.mapSeq fun x=>x.push Value.none)
 generalize u1.update s.heap.objs.size (Obj.mapSeq fun x=>x.push Value.none)=u2 at hS2 sb2
 refine wpAny_updateSeq (s:={ s with heap:=u2 }) hS2 rfl ?_ (by simp [sizeLine_eq]) (by simp [sizeLine_eq])
 have hS3:=Heap.get?_update_self (Obj.mapSeq fun x=>x.pop) hS2 rfl
 have sb3:=Heap.SameBut.update u2 s.heap.objs.size (Obj.mapSeq fun x=>x.pop)
 generalize u2.update s.heap.objs.size (Obj.mapSeq fun x=>x.pop)=u3 at hS3 sb3
 obtain ⟨c3,hS3⟩:∃ c,u3.get? s.heap.objs.size=some { cls:=.type "list",data:=.seq #[] c }:=⟨_,hS3⟩
 refine wpAny_pure ⟨plainId_quiet F.plain_extend_loop _,?_⟩
 have kp3:∀ b o,s.heap.get? b=some o→u3.get? b=some o:=fun b o e=>by
  have hb:b≠s.heap.objs.size:=Nat.ne_of_lt (lt _ _ e)
  rw [sb3.2 b hb,sb2.2 b hb,sb1.2 b hb];exact pk b o e
 have sz3:u3.objs.size=s.heap.objs.size+1:=by rw [sb3.1,sb2.1,sb1.1,sz0]
 clear hS hS1 hS2 sb1 sb2 sb3 pk sz0 e1 hz1 hT1 hT0 nsr
 obtain ⟨a0,b0,hTO⟩:=hTO
 refine codeAny_builtin F.entry_extend_loop ?_
 rw [Around.under_plainId F.plain_extend_loop]
 have hx0:=Array.getElem?_eq_getElem h0
 have hy0:ys[0]?=some (ys[0]'(by omega)):=Array.getElem?_eq_getElem (by omega)
 refine wpAny_bind (wpAny_pyNext_zip_item (s:={ s with heap:=u3 }) D (kp3 _ _ hz) (kp3 _ _ hTI) (kp3 _ _ hTO) (h1.at fun o e=>kp3 _ _ e) (h2.at fun o e=>kp3 _ _ e) (by obtain ⟨o,e,q⟩:=hl1;exact ⟨o,kp3 _ _ e,q⟩) (by obtain ⟨o,e,q⟩:=hl2;exact ⟨o,kp3 _ _ e,q⟩) hx0 hy0 fun u4 g1 g2 g3 g4 g5 g6 g7=>?_)
 replace g1:ZipOut u4 z TI TO u3.objs.size false:=g1
 replace g5:IsPair u4 u3.objs.size xs[0] (ys[0]'(by omega)):=g5
 replace g6:u4.objs.size=u3.objs.size+1:=g6
 replace g7:∀ c o,c≠z→c≠TO→c≠i1→c≠i2→u3.get? c=some o→u4.get? c=some o:=g7
 obtain ⟨oi1,ei1,qi1⟩:=h1
 obtain ⟨oi2,ei2,qi2⟩:=h2
 obtain ⟨ol1,el1,ql1⟩:=hl1
 obtain ⟨ol2,el2,ql2⟩:=hl2
 have n1:=Nat.ne_of_gt (lt _ _ hz)
 have n2:=Nat.ne_of_gt (lt _ _ hTI)
 have n3:=Nat.ne_of_gt (lt _ _ hTO)
 have n4:=Nat.ne_of_gt (lt _ _ ei1)
 have n5:=Nat.ne_of_gt (lt _ _ ei2)
 have n6:=Nat.ne_of_gt (lt _ _ el1)
 have n7:=Nat.ne_of_gt (lt _ _ el2)
 have m1:=lt _ _ hz
 have m4:=lt _ _ ei1
 have m5:=lt _ _ ei2
 have q0:u3.objs.size≠s.heap.objs.size:=by rw [sz3];exact Nat.succ_ne_self _
 have q1:u3.objs.size≠z:=Nat.ne_of_gt (by rw [sz3];exact Nat.lt_succ_of_lt m1)
 have q4:u3.objs.size≠i1:=Nat.ne_of_gt (by rw [sz3];exact Nat.lt_succ_of_lt m4)
 have q5:u3.objs.size≠i2:=Nat.ne_of_gt (by rw [sz3];exact Nat.lt_succ_of_lt m5)
 have hS4:u4.get? s.heap.objs.size=some { cls:=.type "list",data:=.seq #[] c3 }:=g7 _ _ n1 n3 n4 n5 hS3
 show wpAny _ _ (updateSeq s.heap.objs.size (fun x=>x.push (.ref u3.objs.size)) >>= _) _ _ _
 refine wpAny_bind (wpAny_updateSeq (s:={ s with heap:=u4 }) hS4 rfl ?_ (by simp [sizeLine_eq]) (by simp [sizeLine_eq]))
 refine wpAny_pure ⟨plainId_quiet F.plain_extend_loop _,?_⟩
 have hup:=Heap.get?_update_self (Obj.mapSeq fun x=>x.push (.ref u3.objs.size)) hS4 rfl
 have sb:=Heap.SameBut.update u4 s.heap.objs.size (Obj.mapSeq fun x=>x.push (.ref u3.objs.size))
 generalize u4.update s.heap.objs.size (Obj.mapSeq fun x=>x.push (.ref u3.objs.size))=u5 at hup sb
 have kp5:∀ b o,b≠s.heap.objs.size→b≠z→b≠TO→b≠i1→b≠i2→u3.get? b=some o→u5.get? b=some o:=fun b o b0 b1 b2 b3 b4 e=>(sb.2 b b0).trans (g7 b o b1 b2 b3 b4 e)
 refine zip_loop (A:=A.in1) hh D hsz hn s.heap.objs.size (by simp [n1,n2,n3,n4,n5,n6,n7]) .none (xs.size - 1) 1 { s with heap:=u5 } [u3.objs.size] _ false u3.objs.size (by omega) (by omega) ⟨kp5 _ _ (Ne.symm n2) D.TIz D.TITO D.TIi1 D.TIi2 (kp3 _ _ hTI),g3.at fun o e=>(sb.2 _ (Ne.symm n4)).trans e,g4.at fun o e=>(sb.2 _ (Ne.symm n5)).trans e,⟨ol1,kp5 _ _ (Ne.symm n6) D.l1z D.l1TO D.l1i1 D.l1i2 (kp3 _ _ el1),ql1⟩,⟨ol2,kp5 _ _ (Ne.symm n7) D.l2z D.l2TO D.l2i1 D.l2i2 (kp3 _ _ el2),ql2⟩,rfl,fun j t x y e1 e2 e3=>?_⟩ rfl ((sb.2 _ (Ne.symm n1)).trans g1) (by simp) (fun t ht=>?_) hup (fun h' ts c' k' hS' hl' hp' nd' hn'=>?_)
 ·cases j with
  | zero =>
   simp at e1
   subst e1
   rw [hx0] at e2
   rw [hy0] at e3
   cases e2;cases e3
   exact (sb.2 _ q0).trans g5
  | succ j=>simp at e1
 ·rw [List.mem_singleton.mp ht]
  simp only [List.mem_cons,List.not_mem_nil,or_false,not_or]
  exact ⟨q0,q1,q4,q5⟩
 ·refine ⟨rfl,hQ h' ts c' (fun b o b1 b2 b3 b4 e=>k' b o (Nat.ne_of_lt (lt _ _ e)) b1 b3 b4 (kp5 b o (Nat.ne_of_lt (lt _ _ e)) b1 b2 b3 b4 (kp3 b o e))) hS' hl' hp' nd' fun t ht=>?_⟩
  rcases hn' t ht with h | h
  ·rw [List.mem_singleton.mp h,sz3];exact Nat.lt_succ_self _
  ·have h:u5.objs.size≤t:=h
   rw [sb.1,g6,sz3] at h
   exact Nat.lt_of_lt_of_le (Nat.lt_succ_of_lt (Nat.lt_succ_self _)) h
end
section
variable {X:Cx}
theorem refs_vals:∀ ts:List Addr,Vals (ts.map V.ref) (ts.map Value.ref)
 | []=>.nil
 | _ :: r=>.cons rfl (refs_vals r)
theorem Inv.more {pins:List (Addr×Obj)} {σ:St} {H H2:Hp} {s:Shared} {h':Heap} {t':Nat} (I:Inv X pins σ H s) (k:∀ b u,s.heap.get? b=some u→h'.get? b=some u) (sm:Same H H2) (nw:∀ b o,H2 b=some o→H b=some o∨(s.heap.objs.size≤b∧ObjOk X.prog X.w H2 h' b o)):Inv X pins σ H2 { s with heap:=h',toks:=t' }:=by
 refine I.un ⟨fun b u q _ _ _=>k b u q,fun b u q _ _ _=>⟨u.slots,k b u q⟩,fun b u q n _=>?_,fun b u q _=>⟨u,k b u q⟩,fun b xs q=>sm _ _ q,fun b o u q=>sm _ _ q,fun b ps q=>⟨#[],by rw [sm _ _ q];simp⟩⟩ fun b o e=>?_
 ·cases e:H2 b with
  | none=>rfl
  | some o =>
   rcases nw b o e with h | ⟨h,_⟩
   ·rw [n] at h;cases h
   ·exact absurd (Heap.lt_size q) (Nat.not_lt_of_le h)
 ·rcases nw b o e with h | ⟨_,h⟩
  ·exact (I.hok b o h).stay (fun c v _ q=>k c v q) (fun c q=>sm _ _ q) fun c xs q=>sm _ _ q
  ·exact h
def tListZip (K:PySem.W.Frag) (ta:TA):TE:=fun σ H Q=>ta σ H fun vs H1=>∃ (a b:Addr) (xs ys:List V),vs=[.ref a,.ref b]∧SqL K H1 a xs∧SqL K H1 b ys∧ys.length=xs.length∧0 < xs.length∧xs.length≤1000 ∧
 ∀ (l:Addr) (ts:List Addr) (H2:Hp),Same H1 H2→H1 l=none→H2 l=some (.lst (ts.map V.ref))→ts.length=xs.length→l∉ts→ts.Nodup→(∀ t∈ts,H1 t=none)→(∀ (j:Nat) t x y,ts[j]?=some t→xs[j]?=some x→ys[j]?=some y→H2 t=some (.tup [x,y]))→Q (.ref l) H2
theorem r_listzip {K:PySem.W.Frag} {ta:TA} {σ:St} {H:Hp} {Q:VK} (h:ta σ H fun vs H1=>∃ (a b:Addr) (xs ys:List V),vs=[.ref a,.ref b]∧SqL K H1 a xs∧SqL K H1 b ys∧ys.length=xs.length∧0 < xs.length∧xs.length≤1000 ∧
 ∀ (l:Addr) (ts:List Addr) (H2:Hp),Same H1 H2→H1 l=none→H2 l=some (.lst (ts.map V.ref))→ts.length=xs.length→l∉ts→ts.Nodup→(∀ t∈ts,H1 t=none)→(∀ (j:Nat) t x y,ts[j]?=some t→xs[j]?=some x→ys[j]?=some y→H2 t=some (.tup [x,y]))→Q (.ref l) H2):tListZip K ta σ H Q:=h
theorem pe_listzip (K:PySem.W.Frag) {l1 l2:Expr} {ta:TA} {p1 p2 pos1 pos2:Pos} (hc:X.calm=true) (hg1:Gl X "list") (hm1:X.mg "list"=none) (hg2:Gl X "zip") (hm2:X.mg "zip"=none) (ha:PA X [l1,l2] ta)
  (hs:starEach [l1,l2] X.env=(false,eval l1 X.env) :: starEach [l2] X.env:=by rfl) (hs2:((backTo pos2 (starEach [l2] X.env)).any fun x=>x.fst)=false:=by rfl)
  (he:starEach [.Call (.Name "zip" p2) [l1,l2] [] pos2] X.env=(false,eval (.Call (.Name "zip" p2) [l1,l2] [] pos2) X.env) :: starEach [] X.env:=by rfl) (hpl:(backTo pos1 (starEach [] X.env)).any (·.1)=false:=by rfl) (hK:X.K=K:=by rfl) :
  PE X (.Call (.Name "list" p1) [.Call (.Name "zip" p2) [l1,l2] [] pos2] [] pos1) (tListZip K ta):=by
 subst hK
 intro pins s σ H Q I h
 refine wpAny_Call_Name_kw (ld_blt I hg1 hm1 boot_list ?_ (by decide) (by decide))
 refine PyProof.Rows.callWith_type1 ?_ he hpl
 rw [he]
 show wpAny _ _ (spliced ((false,eval (.Call (.Name "zip" p2) [l1,l2] [] pos2) X.env) :: backTo pos1 (starEach [] X.env))) _ _ s
 refine Calls.spliced_cons ?_
 refine Call_ (ld_blt I hg2 hm2 boot_zip (PyProof.Rows.callWith_type1 (thn (ha pos2 pins s σ H _ I h) fun us s1 ⟨vs,H1,I1,r1,q1⟩=>?_) hs hs2))
 obtain ⟨a,b,xs,ys,e,hqa,hqb,hyx,hx0,hx1,q⟩:=q1
 subst e
 cases r1 with
 | cons ra rr =>
  cases rr with
  | cons rb rr =>
   cases rr
   cases ra
   cases rb
   obtain ⟨ia,rva,pa,hza⟩:=I1.list hqa
   obtain ⟨ib,rvb,pb,hzb⟩:=I1.list hqb
   have hal:a < s1.heap.objs.size:=by obtain ⟨o,q,_⟩:=id pa.isList;exact Heap.lt_size q
   have hbl:b < s1.heap.objs.size:=by obtain ⟨o,q,_⟩:=id pb.isList;exact Heap.lt_size q
   have hia:ia.length=xs.length:=rva.length.symm
   have hib:ib.length=ys.length:=rvb.length.symm
   refine call_zip_2 pa.isList pb.isList fun h' z1 t1 o1 i1 i2 hsz hk=>?_
   refine Calls.spliced_nil ?_
   have ap:ZipApart (s1.heap.objs.size+4) (s1.heap.objs.size+2) (s1.heap.objs.size+3) s1.heap.objs.size (s1.heap.objs.size+1) a b:=zip_apart hal hbl
   have ka:h'.IsList a ia.toArray:=by obtain ⟨o,e,q⟩:=id pa.isList;exact ⟨o,hk _ _ e,q⟩
   have kb:h'.IsList b ib.toArray:=by obtain ⟨o,e,q⟩:=id pb.isList;exact ⟨o,hk _ _ e,q⟩
   refine zip_list (s:={ s1 with heap:=h' }) (I1.ok.hd hc) ap z1 t1 ⟨_,_,o1⟩ i1 i2 ka kb (by simp;omega) (by simp;omega) (by simp;omega) fun h2 ts c kp hl hlen hpr nd hgt=>?_
   replace hl:h2.get? h'.objs.size=some { cls:=.type "list",data:=.seq (ts.map Value.ref).toArray c }:=hl
   replace hgt:∀ t∈ts,h'.objs.size < t:=hgt
   replace hlen:ts.length=xs.length:=by rw [hlen];simp [hia]
   have k12:∀ b u,s1.heap.get? b=some u→h2.get? b=some u:=fun b u e=>by
    have hb:=Heap.lt_size e
    have hb':∀ k,b≠s1.heap.objs.size+k:=fun k=>Nat.ne_of_lt (Nat.lt_of_lt_of_le hb (Nat.le_add_right _ _))
    exact kp b u (hb' 4) (hb' 3) (Nat.ne_of_lt hb) (hb' 1) (hk b u e)
   have hbig:s1.heap.objs.size≤h'.objs.size:=by rw [hsz];omega
   have nl:h'.objs.size∉ts:=fun z=>Nat.lt_irrefl _ (hgt _ z)
   let H2:Hp:=fun b=>if b=h'.objs.size then some (.lst (ts.map V.ref)) else if b∈ts then some (.tup [(xs.getD (ts.idxOf b) .non),(ys.getD (ts.idxOf b) .non)]) else H1 b
   have fr:∀ b,s1.heap.objs.size≤b→H1 b=none:=fun b hb=>I1.hok.fresh hb
   have frt:∀ t∈ts,H1 t=none:=fun t ht=>fr t (by have:=hgt t ht;omega)
   have e1:H2 h'.objs.size=some (.lst (ts.map V.ref)):=if_pos rfl
   have sm:Same H1 H2:=fun b o e=>by
    have b1:b≠h'.objs.size:=fun z=>by rw [z,fr _ hbig] at e;cases e
    have b2:b∉ts:=fun z=>by rw [frt b z] at e;cases e
    show (if b=h'.objs.size then _ else if b∈ts then _ else H1 b)=_
    rw [if_neg b1,if_neg b2];exact e
   have et:∀ (j:Nat) t x y,ts[j]?=some t→xs[j]?=some x→ys[j]?=some y→H2 t=some (.tup [x,y]):=fun j t x y g1 g2 g3=>by
    have ht:=List.mem_of_getElem? g1
    have b1:t≠h'.objs.size:=fun z=>nl (z ▸ ht)
    show (if t=h'.objs.size then _ else if t∈ts then _ else H1 t)=_
    rw [if_neg b1,if_pos ht]
    obtain ⟨hj,ej⟩:=List.getElem?_eq_some_iff.mp g1
    have ei:ts.idxOf t=j:=by rw [← ej];exact nd.idxOf_getElem j hj
    rw [ei,List.getD_eq_getElem?_getD,List.getD_eq_getElem?_getD,g2,g3];rfl
   have I3:Inv X pins σ H2 { s1 with heap:=h2,toks:=s1.toks }:=I1.more k12 sm fun b o e=>by
    by_cases b1:b=h'.objs.size
    ·subst b1
     rw [e1] at e;cases e
     refine .inr ⟨hbig,by rw [List.length_map,hlen];exact Nat.le_trans hx1 (by decide),ts.map Value.ref,c,refs_vals ts,hl⟩
    ·by_cases b2:b∈ts
     ·obtain ⟨j,hj⟩:=List.getElem?_of_mem b2
      have hjl:=(List.getElem?_eq_some_iff.mp hj).1
      have hjx:j < xs.length:=by omega
      have hjy:j < ys.length:=by omega
      rw [et j b _ _ hj (List.getElem?_eq_getElem hjx) (List.getElem?_eq_getElem hjy)] at e
      cases e
      obtain ⟨u,hu,ru⟩:=rva.get (List.getElem?_eq_getElem hjx)
      obtain ⟨v,hv,rv⟩:=rvb.get (List.getElem?_eq_getElem hjy)
      have hp:=hpr j b u v hj (by simpa using hu) (by simpa using hv)
      exact .inr ⟨by have:=hgt b b2;omega,by show 2≤sizeLine;decide,[u,v],.cons ru (.cons rv .nil),⟨_,hp,rfl,_,rfl⟩⟩
     ·refine .inl ?_
      have e:(if b=h'.objs.size then _ else if b∈ts then _ else H1 b)=some o:=e
      rw [if_neg b1,if_neg b2] at e
      exact e
   exact ⟨.ref h'.objs.size,H2,I3,rfl,q h'.objs.size ts H2 sm (fr _ hbig) e1 hlen nl nd frt et⟩
end
end L2
namespace My
open PySem L2 PyProof.Rows
def rowI (rss:List (List Int)) (p:Int):List Int:=rss.getD p.toNat []
def ahead (rss sss:List (List Int)) (p:Int×Int):List (Int×Int):=(rowI rss p.1).zip (rowI sss p.2)
def addP (L:List (Int×Int)) (q:Int×Int):List (Int×Int):=if q∈L then L else L++[q]
def addAll (L qs:List (Int×Int)):List (Int×Int):=qs.foldl addP L
def turnP (rss sss:List (List Int)) (L:List (Int×Int)) (i:Nat):List (Int×Int):=match L[i]? with
 | none=>L
 | some p=>addAll L (ahead rss sss p)
def runP (rss sss:List (List Int)):Nat→List (Int×Int)
 | 0=>[(0,0)]
 | i+1=>turnP rss sss (runP rss sss i) i
def finP (rss sss:List (List Int)):List (Int×Int):=runP rss sss (rss.length * sss.length)
theorem addP_pre (L:List (Int×Int)) (q:Int×Int):∃ r,addP L q=L++r:=by
 unfold addP
 by_cases h:q∈L
 ·exact ⟨[],by rw [if_pos h];simp⟩
 ·exact ⟨[q],by rw [if_neg h]⟩
theorem addP_mem (L:List (Int×Int)) (q:Int×Int):q∈addP L q:=by
 unfold addP
 by_cases h:q∈L
 ·rw [if_pos h];exact h
 ·rw [if_neg h];simp
theorem addP_nd {L:List (Int×Int)} (q:Int×Int) (h:L.Nodup):(addP L q).Nodup:=by
 unfold addP
 by_cases hq:q∈L
 ·rw [if_pos hq];exact h
 ·rw [if_neg hq];exact nd_snoc h hq
theorem addP_in {L:List (Int×Int)} {q p:Int×Int} (h:p∈addP L q):p∈L∨p=q:=by
 unfold addP at h
 by_cases hq:q∈L
 ·rw [if_pos hq] at h;exact .inl h
 ·rw [if_neg hq] at h
  rcases List.mem_append.mp h with h | h
  ·exact .inl h
  ·exact .inr (List.mem_singleton.mp h)
theorem addAll_cons (L:List (Int×Int)) (q:Int×Int) (qs:List (Int×Int)):addAll L (q :: qs)=addAll (addP L q) qs:=rfl
theorem addAll_snoc (L:List (Int×Int)) (q:Int×Int) (qs:List (Int×Int)):addAll L (qs++[q])=addP (addAll L qs) q:=by unfold addAll;rw [List.foldl_append];rfl
theorem addAll_pre:∀ (qs L:List (Int×Int)),∃ r,addAll L qs=L++r
 | [],L=>⟨[],by simp [addAll]⟩
 | q :: qs,L=>by
  obtain ⟨r,hr⟩:=addP_pre L q
  obtain ⟨r',hr'⟩:=addAll_pre qs (addP L q)
  exact ⟨r++r',by rw [addAll_cons,hr',hr,List.append_assoc]⟩
theorem addAll_mem:∀ (qs L:List (Int×Int)),∀ q∈qs,q∈addAll L qs
 | q :: qs,L,p,hp=>by
  rw [addAll_cons]
  rcases List.mem_cons.mp hp with rfl | hp
  ·obtain ⟨r,hr⟩:=addAll_pre qs (addP L p)
   rw [hr];exact List.mem_append_left _ (addP_mem L p)
  ·exact addAll_mem qs _ p hp
theorem addAll_nd:∀ (qs:List (Int×Int)) {L:List (Int×Int)},L.Nodup→(addAll L qs).Nodup
 | [],_,h=>h
 | q :: qs,_,h=>by rw [addAll_cons];exact addAll_nd qs (addP_nd q h)
theorem addAll_in:∀ (qs:List (Int×Int)) {L:List (Int×Int)} {p:Int×Int},p∈addAll L qs→p∈L∨p∈qs
 | [],_,_,h=>.inl h
 | q :: qs,L,p,h=>by
  rw [addAll_cons] at h
  rcases addAll_in qs h with h | h
  ·rcases addP_in h with h | h
   ·exact .inl h
   ·exact .inr (by rw [h];simp)
  ·exact .inr (List.mem_cons_of_mem _ h)
theorem addAll_len:∀ (qs L:List (Int×Int)),(addAll L qs).length≤L.length+qs.length
 | [],L=>by simp [addAll]
 | q :: qs,L=>by
  rw [addAll_cons]
  have h1:=addAll_len qs (addP L q)
  have h2:(addP L q).length≤L.length+1:=by
   unfold addP
   by_cases h:q∈L
   ·rw [if_pos h];omega
   ·rw [if_neg h,List.length_append,List.length_singleton];omega
  rw [List.length_cons];omega
section
variable {rss sss:List (List Int)}
theorem turnP_pre (L:List (Int×Int)) (i:Nat):∃ r,turnP rss sss L i=L++r:=by
 unfold turnP
 cases L[i]? with
 | none=>exact ⟨[],by simp⟩
 | some p=>exact addAll_pre _ _
theorem runP_le {i j:Nat} (h:i≤j):∃ r,runP rss sss j=runP rss sss i++r:=by
 induction j with
 | zero =>
  have e:i=0:=by omega
  subst e
  exact ⟨[],by simp⟩
 | succ j ih =>
  by_cases hj:i=j+1
  ·exact ⟨[],by rw [hj];simp⟩
  ·obtain ⟨r,hr⟩:=ih (by omega)
   obtain ⟨r',hr'⟩:=turnP_pre (rss:=rss) (sss:=sss) (runP rss sss j) j
   exact ⟨r++r',by show turnP rss sss (runP rss sss j) j=_;rw [hr',hr,List.append_assoc]⟩
theorem runP_nd (i:Nat):(runP rss sss i).Nodup:=by
 induction i with
 | zero=>simp [runP]
 | succ i ih =>
  show (turnP rss sss (runP rss sss i) i).Nodup
  unfold turnP
  cases (runP rss sss i)[i]? with
  | none=>exact ih
  | some p=>exact addAll_nd _ ih
def InP (rss sss:List (List Int)) (p:Int×Int):Prop:=(0≤p.1∧p.1 < rss.length)∧(0≤p.2∧p.2 < sss.length)
theorem ahead_in {d:Int} (W:Ways d rss) (W2:Ways d sss) {p q:Int×Int} (hp:InP rss sss p) (hq:q∈ahead rss sss p):InP rss sss q:=by
 obtain ⟨⟨p1,p2⟩,p3,p4⟩:=hp
 have h1:p.1.toNat < rss.length:=by omega
 have h2:p.2.toNat < sss.length:=by omega
 unfold ahead rowI at hq
 rw [List.getD_eq_getElem?_getD,List.getD_eq_getElem?_getD,List.getElem?_eq_getElem h1,List.getElem?_eq_getElem h2] at hq
 obtain ⟨a,b⟩:=List.of_mem_zip (show (q.1,q.2)∈_ from hq)
 exact ⟨(W.row _ (List.getElem_mem h1)).2 _ a,(W2.row _ (List.getElem_mem h2)).2 _ b⟩
theorem ahead_len {d:Int} (W:Ways d rss) (W2:Ways d sss) {p:Int×Int} (hp:InP rss sss p):((ahead rss sss p).length:Int)=d:=by
 obtain ⟨⟨p1,p2⟩,p3,p4⟩:=hp
 have h1:p.1.toNat < rss.length:=by omega
 have h2:p.2.toNat < sss.length:=by omega
 unfold ahead rowI
 rw [List.getD_eq_getElem?_getD,List.getD_eq_getElem?_getD,List.getElem?_eq_getElem h1,List.getElem?_eq_getElem h2,List.length_zip]
 have a:=(W.row _ (List.getElem_mem h1)).1
 have b:=(W2.row _ (List.getElem_mem h2)).1
 simp only [Option.getD_some]
 omega
theorem runP_in {d:Int} (W:Ways d rss) (W2:Ways d sss) (h1:0 < rss.length) (h2:0 < sss.length) (i:Nat):∀ p∈runP rss sss i,InP rss sss p:=by
 induction i with
 | zero =>
  intro p hp
  have e:p=(0,0):=by simpa [runP] using hp
  subst e
  exact ⟨⟨Int.le_refl 0,by show (0:Int) < _;omega⟩,Int.le_refl 0,by show (0:Int) < _;omega⟩
 | succ i ih =>
  intro p hp
  have hp:p∈turnP rss sss (runP rss sss i) i:=hp
  unfold turnP at hp
  cases e:(runP rss sss i)[i]? with
  | none=>rw [e] at hp;exact ih p hp
  | some g =>
   rw [e] at hp
   rcases addAll_in _ hp with h | h
   ·exact ih p h
   ·exact ahead_in W W2 (ih g (List.mem_of_getElem? e)) h
theorem pairs_len {L:List (Int×Int)} (nd:L.Nodup) (hin:∀ p∈L,InP rss sss p):L.length≤rss.length * sss.length:=by
 have h:=nodup_le (rss.length * sss.length) (L.map fun e=>e.1.toNat * sss.length+e.2.toNat) ?_ ?_
 ·simpa using h
 ·rw [List.nodup_iff_pairwise_ne,List.pairwise_map]
  refine (List.nodup_iff_pairwise_ne.mp nd).imp_of_mem fun {e f} he hf hef z=>hef ?_
  obtain ⟨⟨e1,e2⟩,e3,e4⟩:=hin e he
  obtain ⟨⟨f1,f2⟩,f3,f4⟩:=hin f hf
  have h2:e.2.toNat < sss.length:=by omega
  have h4:f.2.toNat < sss.length:=by omega
  have hm:e.2.toNat=f.2.toNat:=by
   have:=congrArg (· % sss.length) z
   simpa [Nat.mul_add_mod_of_lt,Nat.add_mod,Nat.mod_eq_of_lt h2,Nat.mod_eq_of_lt h4] using this
  have hq:e.1.toNat=f.1.toNat:=by
   rw [hm] at z
   have z':e.1.toNat * sss.length=f.1.toNat * sss.length:=by omega
   exact Nat.eq_of_mul_eq_mul_right (by omega) z'
  exact Prod.ext (by omega) (by omega)
 ·intro x hx
  obtain ⟨e,he,rfl⟩:=List.mem_map.mp hx
  obtain ⟨⟨e1,e2⟩,e3,e4⟩:=hin e he
  have h1:e.1.toNat+1≤rss.length:=by omega
  have h2:e.2.toNat < sss.length:=by omega
  calc e.1.toNat * sss.length+e.2.toNat < e.1.toNat * sss.length+sss.length:=by omega
   _=(e.1.toNat+1) * sss.length:=by rw [Nat.succ_mul]
   _≤rss.length * sss.length:=Nat.mul_le_mul_right _ h1
theorem runP_stop {i:Nat} (h:(runP rss sss i).length≤i):∀ k,runP rss sss (i+k)=runP rss sss i
 | 0=>rfl
 | k+1=>by
  show turnP rss sss (runP rss sss (i+k)) (i+k)=_
  rw [runP_stop h k]
  unfold turnP
  rw [List.getElem?_eq_none (by omega)]
variable {d:Int} (W:Ways d rss) (W2:Ways d sss) (h1:0 < rss.length) (h2:0 < sss.length)
include W W2 h1 h2
theorem finP_len:(finP rss sss).length≤rss.length * sss.length:=pairs_len (runP_nd _) (runP_in W W2 h1 h2 _)
theorem finP_of {i:Nat} (h:(runP rss sss i).length≤i):runP rss sss i=finP rss sss:=by
 have hf:=finP_len W W2 h1 h2
 rcases Nat.le_total i (rss.length * sss.length) with hi | hi
 ·have:=runP_stop h (rss.length * sss.length - i)
  rw [Nat.add_sub_cancel' hi] at this
  exact this.symm
 ·have:=runP_stop (rss:=rss) (sss:=sss) (i:=rss.length * sss.length) hf (i - rss.length * sss.length)
  rw [Nat.add_sub_cancel' hi] at this
  exact this
theorem finP_pre (i:Nat):∃ r,finP rss sss=runP rss sss i++r:=by
 rcases Nat.le_total i (rss.length * sss.length) with hi | hi
 ·exact runP_le hi
 ·have hf:=finP_len W W2 h1 h2
  have:=runP_stop (rss:=rss) (sss:=sss) (i:=rss.length * sss.length) hf (i - rss.length * sss.length)
  rw [Nat.add_sub_cancel' hi] at this
  exact ⟨[],by rw [this];simp [finP]⟩
theorem finP_at {i:Nat} {p:Int×Int} (h:(finP rss sss)[i]?=some p):(runP rss sss i)[i]?=some p:=by
 have hl:=(List.getElem?_eq_some_iff.mp h).1
 obtain ⟨r,hr⟩:=finP_pre W W2 h1 h2 i
 have:i < (runP rss sss i).length:=by
  rcases Nat.lt_or_ge i (runP rss sss i).length with z | z
  ·exact z
  ·rw [← finP_of W W2 h1 h2 z] at hl;omega
 rw [hr,List.getElem?_append_left this] at h
 exact h
theorem finP_closed {p q:Int×Int} (hp:p∈finP rss sss) (hq:q∈ahead rss sss p):q∈finP rss sss:=by
 obtain ⟨i,hi⟩:=List.getElem?_of_mem hp
 have h:=finP_at W W2 h1 h2 hi
 obtain ⟨r,hr⟩:=finP_pre W W2 h1 h2 (i+1)
 rw [hr]
 refine List.mem_append_left _ ?_
 show q∈turnP rss sss (runP rss sss i) i
 unfold turnP
 rw [h]
 exact addAll_mem _ _ q hq
end
end My
namespace L2
open PySem PySem.Spec PyProof.Rows
def tTryM (tb:XK→TS) (i:Nat) (th:Addr→TS):TS:=fun D σ H =>
 tb (fun cls _ H'=>∃ C,cls=.ref C∧∀ ea,H' ea=none→th C (suiteEnds i D) (σ.set i (some (.ref ea))) (upd H' ea (.ext (ExcAt ea C)))) D σ H
theorem ps_tryM {X:Cx} {body:List Stmt} {n:Str} {i:Nat} {pos:Pos} {tb:XK→TS} {h0:ExceptHandler} {hr0:List ExceptHandler} {th:Addr→TS} (hstk:X.stack=X.env :: X.outer) (hfr:X.env.frame=some X.env.locals)
  (hN:X.N.Nodup) (hi:X.N[i]?=some n) (hl:X.env.scope.names.lookup n=some .local)
  (hb:∀ (E:XK) (xe:Value→Shared→Prop) (pn:List (Addr×Obj)) (σ0:St),PassAt (CXr X.prog X.w) (wish2 X xe pn) σ0 E→PSsA (wish2 X xe pn) σ0 body (tb E)) (hh:PHs X n (h0 :: hr0) th) :
  PS X (.Try body (h0 :: hr0) [] [] pos) (tTryM tb i th):=by
 intro pins s σ H D I h
 refine wpAny_Try_except (wpAny_mono (hb _ (fun e s₁=>wpAny (model X.prog X.w) X.A (noteFrame e X.env) (fun _ s₂=>wpAny (model X.prog X.w) X.A (setFlight e none) (fun _ s₃ =>
   wpAny (model X.prog X.w) X.A (handleBy e X.env (h0 :: hr0)) (SP X pins D) X.xe s₃) X.xe s₂) X.xe s₁) (X.pn++pins) σ ?pass [] s H D I.toW h) (fun f s1 q=>?_) fun e s1 q=>q)
 case pass =>
  intro pins1 H1 s1 e s' I1 hx
  obtain ⟨ea,cls,a0,B,H',rfl,ho,hgn,u,hok,fl,dm,tr,hcls⟩:=hx
  obtain ⟨C,rfl,hts⟩:=hcls
  have IX:Inv X pins σ H1 s1:=I1.ofW
  have u:Un (frs X.stack) [] H1 H' s1.heap s'.heap:=u
  have fl:Heap.FlyingW B X.stack ea (.ref C) a0 s'.heap:=fl
  have dm:∀ b o,s1.heap.get? b=some o→b∉frs X.stack→∃ o',B.get? b=some o':=dm
  have heaH:H' ea=none:=by
   cases e:H' ea with
   | none=>rfl
   | some w'=>obtain ⟨o',z⟩:=tr ea w' e;rw [fl.2.1] at z;cases z
  have hea1:s1.heap.get? ea=none:=by
   cases e:s1.heap.get? ea with
   | none=>rfl
   | some w' =>
    exfalso
    by_cases hb:ea∈frs X.stack
    ·obtain ⟨sl,e1⟩:=u.slot ea w' e (IX.stkFree ea hb) hb (by simp)
     obtain ⟨_,o',e',hdn⟩:=IX.stack.mem hb
     rw [e] at e';cases e'
     obtain ⟨_,_,_,oe,vs,_,_,_,he,_,hdt,_⟩:=fl
     rw [e1] at he;cases he
     exact hdn vs hdt
    ·obtain ⟨o',z⟩:=dm ea w' e hb;rw [fl.2.1] at z;cases z
  have fl0:=fl
  rw [hstk] at fl
  refine wpAny_looks_onW (by rw [← hstk];exact I.ok.frames) hfr fl fun h4 held sm4=>?_
  refine wpAny_landsW held fun h5 fl5 sm5=>?_
  obtain ⟨u5,ok5⟩:=fly_un IX u hok fl0.1 fl5.1 (sm4.trans sm5) dm tr
  have I5:Inv X pins σ H' { s' with heap:=h5 }:=IX.call' (s':={ s' with heap:=h5 }) ho u5 ok5 hgn (fun b hb=>by cases hb)
  have J5:Inv (suiteX X ea (X.pn++pins)) [] σ H' { s' with heap:=h5 }:=I5.toS
  obtain ⟨ob,hob,hobc⟩:=fl5.there
  have LT:PySem.W.Looks (model X.prog X.w) h5 (typeOf (.ref ea)) (.ref C):=by
   have z:PySem.W.Looks (model X.prog X.w) h5 (typeOf (.ref ea)) ob.cls:=(PySem.W.Looks.ld hob).andThen .now
   rwa [hobc] at z
  have KI:X.K.In h5:=I5.kIn
  have hts0:=hts ea heaH
  clear hts
  have hh0:=hh
  generalize hthe:th=the at hts0 hh0
  clear hthe
  generalize hhse:h0 :: hr0=hse at hh0 ⊢
  clear hhse
  induction hh0 with
  | nil=>exact hts0.elim
  | @cons x np C1 b₀ suite hpos ts rest th2 hg hm hd hs2 hrest ih =>
   rcases hts0 with ⟨hx1,hts1⟩ | ⟨hx1,hts1⟩
   ·refine wpAny_handleBy_cons (codeAny_handlers_test (ld_glob J5 hg hm ?_ hd)) (by intro q;cases q)
    refine PySem.W.exm_one KI LT hx1 _ _ _ _ (fun _ _ e=>e) ?_
    refine codeAny_handlers_suite_as ?_
    obtain ⟨hp',g',d',t',os'⟩:=s'
    refine lands_againW fl5 fun h6 fl6 sm6=>?_
    obtain ⟨u6,ok6⟩:=fly_un IX u hok fl0.1 fl6.1 ((sm4.trans sm5).trans sm6) dm tr
    have φ:ExcAt ea C h6:=by
     obtain ⟨_,_,_,oe,vs,_,_,_,he,hcl,hdt,_⟩:=fl6
     exact ⟨oe,vs,he,hcl.1,hdt⟩
    have nea:∀ b o,s1.heap.get? b=some o→b≠ea:=fun b o e z=>by rw [z,hea1] at e;cases e
    have u7:Un (frs X.stack) [] H1 (upd H' ea (.ext (ExcAt ea C))) s1.heap h6 :=
     ⟨u6.keep,u6.slot,fun b o e n hx=>by rw [upd_ne (nea b o e)];exact u6.free b o e n hx,u6.there,fun b xs e=>by rw [upd_ne (ne_of_none (u6.tups b xs e) heaH)];exact u6.tups b xs e,
      fun b o xs e=>by rw [upd_ne (ne_of_none (u6.frzs b o xs e) heaH)];exact u6.frzs b o xs e,fun b ps e=>by obtain ⟨mr,z⟩:=u6.tbls b ps e;exact ⟨mr,by rw [upd_ne (ne_of_none z heaH)];exact z⟩⟩
    have ok7:HOk X.prog X.w (upd H' ea (.ext (ExcAt ea C))) h6:=fun b v e=>by
     by_cases hb:b=ea
     ·subst hb;rw [upd_same] at e;cases e
      obtain ⟨o,vs,z1,z2,z3⟩:=id φ
      exact ⟨φ,⟨o,z1⟩,fun h1 h2 ⟨o',vs',y1,y2,y3⟩ k=>⟨o',vs',k o' y1,y2,y3⟩⟩
     ·rw [upd_ne hb] at e
      exact (ok6 b v e).stay (fun _ _ _ q=>q) (fun c q=>by rw [upd_ne (ne_of_none q heaH)];exact q) fun c xs q=>by rw [upd_ne (ne_of_none q heaH)];exact q
    have I7:Inv X pins σ (upd H' ea (.ext (ExcAt ea C))) ⟨h6,g',d',t',os'⟩:=IX.call' (s':=⟨h6,g',d',t',os'⟩) ho u7 ok7 hgn (fun b hb=>by cases hb)
    have J8:Inv (suiteX X ea (X.pn++pins)) [] σ (upd H' ea (.ext (ExcAt ea C))) ⟨h6,g',d',t',os'⟩:=I7.toS
    refine store_ok (X:=suiteX X ea (X.pn++pins)) (v:=.ref ea) J8 hN hi (.inl hl) rfl (fun s9 J9=>?_) (.inr hl)
    refine wpAny_mono (hs2 ea (X.pn++pins) [] s9 _ _ _ J9 hts1) (fun f s10 q10=>?_) (fun _ _ z=>z.elim)
    have done:∀ {σ':St} {Hn:Hp},Inv (suiteX X ea (X.pn++pins)) [] σ' Hn s10→(∀ s11,Inv X pins (σ'.set i none) Hn s11→SP X pins D f s11)→wpAny (model X.prog X.w) X.A (do bindName X.env n .none;unbindBehindTheSuite X.env n hpos) (fun _ s₃=>SP X pins D f s₃) X.xe s10:=fun {σ' Hn} J k=>by
     have IJ:Inv X pins σ' Hn s10:=J.ofS I.ok.hd I.ok.frames
     obtain ⟨m,hnm,hlm⟩:=id IJ.loc
     exact wpAny_nameGoes_keeps hl hnm (by rw [I.ok.kind];rfl) fun h' v hn' hs'=>k _ (IJ.goes hN hi hlm hn' hs')
    cases f with
    | next=>obtain ⟨σ',Hn,J,q⟩:=q10;exact done J fun s11 I11=>⟨_,Hn,I11,q⟩
    | brk=>obtain ⟨σ',Hn,J,q⟩:=q10;exact done J fun s11 I11=>⟨_,Hn,I11,q⟩
    | cont=>obtain ⟨σ',Hn,J,q⟩:=q10;exact done J fun s11 I11=>⟨_,Hn,I11,q⟩
    | ret v=>obtain ⟨y,σ',Hn,J,r,q⟩:=q10;exact done J fun s11 I11=>⟨y,_,Hn,I11,r,q⟩
   ·refine wpAny_handleBy_cons (codeAny_handlers_test (ld_glob J5 hg hm ?_ hd)) (by intro q;cases q)
    refine PySem.W.exm_one KI LT hx1 _ _ _ _ (fun _ _ e=>e) ?_
    exact ih hts1
 ·cases f with
  | next=>obtain ⟨σ',Hn,J,q⟩:=q;exact wpAny_execs_nil ⟨σ',Hn,J.ofW,q⟩
  | brk=>obtain ⟨σ',Hn,J,q⟩:=q;exact ⟨σ',Hn,J.ofW,q⟩
  | cont=>obtain ⟨σ',Hn,J,q⟩:=q;exact ⟨σ',Hn,J.ofW,q⟩
  | ret v=>obtain ⟨y,σ',Hn,J,r,q⟩:=q;exact ⟨y,σ',Hn,J.ofW,r,q⟩
theorem r_tryM {tb:XK→TS} {i:Nat} {th:Addr→TS} {D:Ends} {σ:St} {H:Hp} (h:tb (fun cls _ H'=>∃ C,cls=.ref C∧∀ ea,H' ea=none→th C (suiteEnds i D) (σ.set i (some (.ref ea))) (upd H' ea (.ext (ExcAt ea C)))) D σ H):tTryM tb i th D σ H:=h
section
variable {X:Cx} {CX:CXT} {k:Nat} {f C:Addr} {fd:FuncData} {ps:List Str} {sp:Sp} {dvs:List V} {ds:List Value} {E:XK} {x m:Str} {p pos apos:Pos} {e o:Expr} {es:List Expr} {ta:TE} {t:TA}
theorem pe_callA {σ:St} (F:FnOk X.prog X.w X.K X.mg X.base CX k f fd ps sp) (hr:Room k X.A) (hg:Gl X x) (hm:X.mg x=some (.ref f)) (hk:PySem.W.keepIn X.K (.ref f)=true) (hb:Binds X.K fd ps ds) (hd:Vals dvs ds) (hx:PassAt CX X σ E)
  (ha:PA X (e :: es) t) (hdb:(x == ("__debug__":Str))=false:=by decide) (he:starEach (e :: es) X.env=(false,eval e X.env) :: starEach es X.env:=by rfl) (hpl:(backTo pos (starEach es X.env)).any (·.1)=false:=by rfl) :
  PEA X σ (.Call (.Name x p) (e :: es) [] pos) (tCall sp dvs E t):=by
 intro pins s H Q I h
 refine wpAny_Call_Name_kw (ld_glob I hg hm ?_ hdb)
 refine PySem.W.callWith_K (h₀:=X.base) I.ok.mod.kin hk (thn (ha pos pins s σ H _ I h) fun us s1 ⟨vs,H1,I1,r,q⟩=>⟨I1.kIn,?_⟩) he hpl
 exact run_fnA F hr hb hd hx I1 r q
theorem pss_exprA {σ:St} {e:Expr} {te:TE} {pos:Pos} (he:PEA X σ e te) (hs:swapsWith e none pos.line X.env=pure false:=by rfl):PSsA X σ [.Expr e pos] (tDrop te):=by
 intro pins s H D I h
 have h1:∀ s,wpAny (model X.prog X.w) X.A (exec (.Expr e pos) X.env) (SP X pins D) X.xe s→wpAny (model X.prog X.w) X.A (execs [.Expr e pos] X.env) (SP X pins D) X.xe s:=fun s q=>wpAny_execs_cons (thn q fun f s1 q=>by
  cases f with
  | next=>exact wpAny_execs_nil q
  | ret v=>exact q
  | brk=>exact q
  | cont=>exact q)
 exact h1 s (wpAny_Expr_any (thn (he pins s H _ I h) fun v s1 ⟨x,H1,I1,r1,q1⟩=>⟨σ,H1,I1,q1⟩) I.quiet hs)
end
end L2
namespace My
end My
namespace My
end My
namespace My
end My
namespace My
end My
namespace My
end My
namespace My
end My
namespace L2
open PySem PySem.Spec PyProof.Rows
end L2
namespace PySem
open Sem (wp)
end PySem
namespace L2
open PySem PySem.Spec PyProof.Rows
end L2
set_option maxHeartbeats 1000000
namespace My
open PySem L2 PyProof.Rows
def top (i:Nat):Stmt:=PySem.Challenge.pw_askhouse_k23_refusals_apart.main.body.getD i (.Pass ⟨0,0,0,0⟩)
abbrev s_check_doors:Stmt:=top 17
abbrev s_check_house:Stmt:=top 18
abbrev s_check_word:Stmt:=top 19
abbrev s_House_init:Stmt:=inClass (top 20) 0
abbrev s_House_rooms:Stmt:=inClass (top 20) 1
abbrev s_House_trail:Stmt:=inClass (top 20) 2
abbrev s_House_room_of:Stmt:=inClass (top 20) 3
abbrev s_House_says:Stmt:=inClass (top 20) 4
abbrev s_Book_init:Stmt:=inClass (top 22) 0
abbrev s_Book_said:Stmt:=inClass (top 22) 3
abbrev s_Book_check_note:Stmt:=inClass (top 22) 1
abbrev s_Book_note:Stmt:=inClass (top 22) 2
abbrev s_leader:Stmt:=top 24
abbrev s_newly_linked:Stmt:=top 25
abbrev s_pairs_behind:Stmt:=top 26
abbrev s_parting_word:Stmt:=top 27
abbrev s_check_room:Stmt:=top 28
abbrev s_apart:Stmt:=top 29
abbrev s_check_same_doors:Stmt:=top 31
abbrev s_difference:Stmt:=top 32
abbrev s_pairs_ahead:Stmt:=top 33
abbrev s_numbers_of_pairs:Stmt:=top 34
abbrev s_truth_of:Stmt:=top 35
abbrev s_mixed:Stmt:=top 36
abbrev s_one_door_more:Stmt:=top 38
abbrev s_counts_to:Stmt:=top 39
abbrev s_word_at:Stmt:=top 40
abbrev s_Learner_add_head:Stmt:=inClass (top 42) 1
abbrev s_Learner_init:Stmt:=inClass (top 42) 0
abbrev s_Learner_gap:Stmt:=inClass (top 42) 3
abbrev s_Learner_question:Stmt:=inClass (top 42) 2
abbrev s_Learner_heads_by_row:Stmt:=inClass (top 42) 7
abbrev s_Learner_unlike_edge:Stmt:=inClass (top 42) 6
abbrev s_Learner_add_unlike_edges:Stmt:=inClass (top 42) 5
abbrev s_Learner_answer:Stmt:=inClass (top 42) 4
abbrev s_Learner_guess:Stmt:=inClass (top 42) 8
abbrev s_Learner_add_tails:Stmt:=inClass (top 42) 10
abbrev s_Learner_wrong:Stmt:=inClass (top 42) 9
abbrev s_written_numbers:Stmt:=top 45
abbrev s_number_of:Stmt:=top 46
abbrev s_lamp_of:Stmt:=top 47
abbrev s_doors_of:Stmt:=top 48
abbrev s_read:Stmt:=top 49
abbrev s_l_cell_at:Stmt:=top 51
abbrev s_l_ring:Stmt:=top 52
abbrev s_l_taught:Stmt:=top 53
abbrev s_l_do:Stmt:=top 54
abbrev s_l_marks:Stmt:=top 55
abbrev s_law:Stmt:=top 56
local macro_rules | `(tactic| walk_at "sx")=>`(tactic| first
 | with_reducible refine r_seq ?_ | with_reducible refine r_asg ?_ | with_reducible refine r_gname ?_ | with_reducible refine r_gsub ?_ | with_reducible refine r_drop ?_ | with_reducible refine r_ret ?_ | with_reducible refine r_ifs ?_
 | ((with_reducible refine r_var (v:=?v) ?e ?_);(case e=>exact rfl))
 | with_reducible refine r_C ?_ | with_reducible refine r_op ?_ | with_reducible refine r_un ?_ | with_reducible refine r_test ?_ | with_reducible refine r_tB ?_ | with_reducible refine r_bl ?_
 | with_reducible refine r_and ?_ | with_reducible refine r_or ?_ | with_reducible refine r_not ?_ | with_reducible refine r_andV ?_ | with_reducible refine r_orV ?_ | with_reducible refine r_notV ?_ | with_reducible refine r_chain ?_
 | with_reducible refine r_call ?_ | with_reducible refine r_cb ?_ | with_reducible refine r_cons ?_ | with_reducible refine r_nil ?_ | with_reducible refine r_next ?_ | with_reducible refine r_lst ?_ | with_reducible refine r_tup ?_
 | with_reducible refine r_for ?_ | with_reducible refine r_rng1 ?_ | with_reducible refine r_rng2 ?_ | with_reducible refine r_ilist ?_ | with_reducible refine r_ienum ?_ | with_reducible refine r_izip ?_ | with_reducible refine r_listzip ?_ | with_reducible refine r_ikeysT ?_ | with_reducible refine r_comp ?_ | with_reducible refine r_bm ?_ | with_reducible refine r_meth ?_ | with_reducible refine r_make ?_ | with_reducible refine r_sfld ?_
 | with_reducible refine r_I0 ?_ | with_reducible refine r_U ?_
 | ((with_reducible refine r_I ?c ?_);(case c=>first | (show (0:Int) < _;first | assumption | decide | omega) | exact ⟨by decide,by decide⟩ | exact Or.inl ⟨by decide,by decide⟩ | exact Or.inr ⟨by decide,by decide⟩))
 | with_reducible refine r_raise ?_ | with_reducible refine r_joined ?_ | with_reducible refine r_jstr ?_ | with_reducible refine r_jnil ?_ | with_reducible refine r_jint ?_ | with_reducible refine r_try ?_
 | with_reducible refine r_bm0 ?_ | with_reducible refine r_dget ?_ | with_reducible refine r_din ?_ | with_reducible refine r_dnotin ?_ | with_reducible refine r_dput ?_ | with_reducible refine r_dnew ?_ | with_reducible refine r_sl ?_ | with_reducible refine r_nopart ?_ | with_reducible refine r_part ?_
 | with_reducible refine r_dispT ?_ | with_reducible refine r_jbl ?_ | with_reducible refine r_compI ?_ | with_reducible refine r_ifE ?_ | with_reducible refine r_tryN ?_ | with_reducible refine r_iitemsK ?_ | with_reducible refine r_tryA ?_ | with_reducible refine r_thaw ?_ | with_reducible refine r_iitems ?_ | with_reducible refine r_dget1 ?_ | with_reducible refine r_dnewT ?_
 | with_reducible refine r_slN ?_ | with_reducible refine r_dnewG ?_ | with_reducible refine r_gin ?_ | with_reducible refine r_gnotin ?_ | with_reducible refine r_gget ?_ | with_reducible refine r_gput ?_ | with_reducible refine r_sfldaug ?_
 | with_reducible refine r_snx ?_ | with_reducible refine r_srt ?_
 | with_reducible refine r_nx ?_ | with_reducible refine r_rt ?_)
local macro_rules | `(tactic| walk_at "w")=>`(tactic| (repeat walk_at "sx"))
theorem len_0 {α:Type} {us:List α} (h:us.length=0):us=[]:=List.eq_nil_of_length_eq_zero h
theorem len_1 {α:Type} {us:List α} (h:us.length=1):∃ a0,us=[a0]:=List.length_eq_one_iff.mp h
theorem len_2 {α:Type} {us:List α} (h:us.length=2):∃ a0 a1,us=[a0,a1]:=by
 cases us with
 | nil=>simp at h
 | cons a0 r =>
  obtain ⟨a1,e⟩:=len_1 (us:=r) (by simpa using h)
  exact ⟨a0,a1,by rw [e]⟩
theorem len_3 {α:Type} {us:List α} (h:us.length=3):∃ a0 a1 a2,us=[a0,a1,a2]:=by
 cases us with
 | nil=>simp at h
 | cons a0 r =>
  obtain ⟨a1,a2,e⟩:=len_2 (us:=r) (by simpa using h)
  exact ⟨a0,a1,a2,by rw [e]⟩
theorem len_4 {α:Type} {us:List α} (h:us.length=4):∃ a0 a1 a2 a3,us=[a0,a1,a2,a3]:=by
 cases us with
 | nil=>simp at h
 | cons a0 r =>
  obtain ⟨a1,a2,a3,e⟩:=len_3 (us:=r) (by simpa using h)
  exact ⟨a0,a1,a2,a3,by rw [e]⟩
def nthS (b:List Stmt) (i:Nat):Stmt:=b.getD i (.Pass ⟨0,0,0,0⟩)
def valS:Stmt→Expr
 | .Assign _ v _=>v
 | _=>.Constant .none 0 ⟨0,0,0,0⟩
def scE (d:Scope):Expr→Scope
 | .ListComp _ _ sc _=>sc
 | _=>d
structure Mat (H:Hp) (a:Addr) (rs:List Addr) (rss:List (List Int)):Prop where
 top:H a=some (.lst (rs.map V.ref))
 len:rs.length=rss.length
 row:∀ (i:Nat) (r:Addr) (row:List Int),rs[i]?=some r→rss[i]?=some row→H r=some (.lst (row.map V.int))
 nd:(a :: rs).Nodup
theorem Mat.same {H H':Hp} {a:Addr} {rs:List Addr} {rss:List (List Int)} (e:Same H H') (m:Mat H a rs rss):Mat H' a rs rss :=
 ⟨e _ _ m.top,m.len,fun i r row h1 h2=>e _ _ (m.row i r row h1 h2),m.nd⟩
theorem Mat.get {H:Hp} {a:Addr} {rs:List Addr} {rss:List (List Int)} (m:Mat H a rs rss) {i:Nat} {row:List Int} (h:rss[i]?=some row) :
  ∃ r,rs[i]?=some r∧(rs.map V.ref)[i]?=some (.ref r)∧H r=some (.lst (row.map V.int)):=by
 obtain ⟨hi,_⟩:=List.getElem?_eq_some_iff.mp h
 have hr:i < rs.length:=by rw [m.len];exact hi
 refine ⟨rs[i],List.getElem?_eq_getElem hr,?_,m.row i _ row (List.getElem?_eq_getElem hr) h⟩
 rw [List.getElem?_map,List.getElem?_eq_getElem hr];rfl
theorem Mat.upd {H:Hp} {a:Addr} {rs:List Addr} {rss:List (List Int)} (m:Mat H a rs rss) {b:Addr} {o:HO} (hb:b∉a :: rs):Mat (upd H b o) a rs rss:=by
 refine ⟨?_,m.len,fun i r row h1 h2=>?_,m.nd⟩
 ·rw [upd_ne (fun z=>hb (by rw [← z];exact List.mem_cons_self))];exact m.top
 ·rw [upd_ne (fun z=>hb (by rw [← z];exact List.mem_cons_of_mem _ (List.mem_of_getElem? h1)))];exact m.row i r row h1 h2
theorem Mat.mem {H:Hp} {a:Addr} {rs:List Addr} {rss:List (List Int)} (m:Mat H a rs rss) {b:Addr} (hb:b∈a :: rs):∃ o,H b=some o:=by
 rcases List.mem_cons.mp hb with rfl | hb
 ·exact ⟨_,m.top⟩
 ·obtain ⟨i,hi⟩:=List.getElem?_of_mem hb
  obtain ⟨h1,_⟩:=List.getElem?_eq_some_iff.mp hi
  have h2:i < rss.length:=by rw [← m.len];exact h1
  exact ⟨_,m.row i b rss[i] hi (List.getElem?_eq_getElem h2)⟩
theorem int_map_get {ns:List Int} {i:Nat} {x:Int} (h:ns[i]?=some x):(ns.map V.int)[i]?=some (.int x):=by rw [List.getElem?_map,h];rfl
theorem int_map_inv {ns:List Int} {i:Nat} {x:V} (h:(ns.map V.int)[i]?=some x):∃ n,x=.int n∧ns[i]?=some n:=by
 rw [List.getElem?_map] at h
 cases e:ns[i]? with
 | none=>rw [e] at h;cases h
 | some n=>rw [e] at h;cases h;exact ⟨n,rfl,rfl⟩
theorem bl_map_get {ns:List Bool} {i:Nat} {x:Bool} (h:ns[i]?=some x):(ns.map V.bl)[i]?=some (.bl x):=by rw [List.getElem?_map,h];rfl
theorem bl_map_inv {ns:List Bool} {i:Nat} {x:V} (h:(ns.map V.bl)[i]?=some x):∃ n,x=.bl n∧ns[i]?=some n:=by
 rw [List.getElem?_map] at h
 cases e:ns[i]? with
 | none=>rw [e] at h;cases h
 | some n=>rw [e] at h;cases h;exact ⟨n,rfl,rfl⟩
theorem ref_map_inv {ns:List Addr} {i:Nat} {x:V} (h:(ns.map V.ref)[i]?=some x):∃ n,x=.ref n∧ns[i]?=some n:=by
 rw [List.getElem?_map] at h
 cases e:ns[i]? with
 | none=>rw [e] at h;cases h
 | some n=>rw [e] at h;cases h;exact ⟨n,rfl,rfl⟩
def hfs (d:Int) (aw al:Addr):List (Str×V):=putF "lamps" (.ref al) (putF "ways" (.ref aw) (putF "doors" (.int d) []))
theorem s_lw:¬ (("lamps":Str)="ways"):=by decide +kernel
theorem s_ld:¬ (("lamps":Str)="doors"):=by decide +kernel
theorem s_wd:¬ (("ways":Str)="doors"):=by decide +kernel
theorem hfs_doors (d:Int) (aw al:Addr):(hfs d aw al).lookup ("doors":Str)=some (.int d):=by
 unfold hfs;rw [lookup_putF,if_neg (fun z=>s_ld z.symm),lookup_putF,if_neg (fun z=>s_wd z.symm),lookup_putF,if_pos rfl]
theorem hfs_ways (d:Int) (aw al:Addr):(hfs d aw al).lookup ("ways":Str)=some (.ref aw):=by
 unfold hfs;rw [lookup_putF,if_neg (fun z=>s_lw z.symm),lookup_putF,if_pos rfl]
theorem hfs_lamps (d:Int) (aw al:Addr):(hfs d aw al).lookup ("lamps":Str)=some (.ref al):=by
 unfold hfs;rw [lookup_putF,if_pos rfl]
theorem hfs_no (d:Int) (aw al:Addr) {m:Str} (h1:¬ m="lamps") (h2:¬ m="ways") (h3:¬ m="doors"):(hfs d aw al).lookup m=none:=by
 unfold hfs;rw [lookup_putF,if_neg h1,lookup_putF,if_neg h2,lookup_putF,if_neg h3];rfl
structure HouseAt (C:Addr) (H:Hp) (p:Addr) (d:Int) (aw:Addr) (rs:List Addr) (rss:List (List Int)) (al:Addr) (ls:List Bool):Prop where
 ob:∃ dx,H p=some (.ins C dx (hfs d aw al))
 ways:Mat H aw rs rss
 lamps:H al=some (.lst (ls.map V.bl))
theorem HouseAt.same {C:Addr} {H H':Hp} {p:Addr} {d:Int} {aw:Addr} {rs:List Addr} {rss:List (List Int)} {al:Addr} {ls:List Bool} (e:Same H H') (h:HouseAt C H p d aw rs rss al ls):HouseAt C H' p d aw rs rss al ls :=
 ⟨let ⟨dx,q⟩:=h.ob;⟨dx,e _ _ q⟩,h.ways.same e,e _ _ h.lamps⟩
structure Grown (H H':Hp) (l:Addr) (rs:List Addr) (f:Nat→List Int):Prop where
 top:H' l=some (.lst (rs.map V.ref))
 row:∀ (j:Nat) (b:Addr),rs[j]?=some b→H' b=some (.lst ((f j).map V.int))
 nd:(l :: rs).Nodup
 new:∀ b∈l :: rs,H b=none
 same:Same H H'
theorem Grown.start {H:Hp} {l:Addr} {f:Nat→List Int} (hl:H l=none):Grown H (upd H l (.lst [])) l [] f :=
 ⟨upd_same,fun j b h=>by simp at h,by simp,fun b hb=>by rw [List.mem_singleton.mp hb];exact hl,Same.upd_new hl⟩
theorem Grown.fresh {H H':Hp} {l:Addr} {rs:List Addr} {f:Nat→List Int} (G:Grown H H' l rs f) {p:Addr} (hp:H' p=none):p∉l :: rs:=fun hm=>by
 rcases List.mem_cons.mp hm with rfl | hm
 ·rw [G.top] at hp;cases hp
 ·obtain ⟨j,hj⟩:=List.getElem?_of_mem hm
  rw [G.row j p hj] at hp;cases hp
theorem Grown.snoc {H H':Hp} {l p:Addr} {rs:List Addr} {f:Nat→List Int} (G:Grown H H' l rs f) (hp:H' p=none) :
  Grown H (upd (upd H' p (.lst ((f rs.length).map V.int))) l (.lst (rs.map V.ref++[.ref p]))) l (rs++[p]) f:=by
 have np:=G.fresh hp
 have hpl:p≠l:=fun z=>np (by rw [z];exact List.mem_cons_self)
 have nl:l∉rs:=(List.nodup_cons.mp G.nd).1
 refine ⟨?_,fun j b hj=>?_,?_,fun b hb=>?_,fun b o e=>?_⟩
 ·rw [upd_same,List.map_append];rfl
 ·have hbl:b≠l:=fun z=>by
   have hm:=List.mem_of_getElem? hj
   rcases List.mem_append.mp hm with hm | hm
   ·exact nl (z ▸ hm)
   ·exact hpl ((List.mem_singleton.mp hm).symm.trans z)
  rw [upd_ne hbl]
  by_cases hlt:j < rs.length
  ·rw [List.getElem?_append_left hlt] at hj
   have hbp:b≠p:=fun z=>np (List.mem_cons_of_mem _ (z ▸ List.mem_of_getElem? hj))
   rw [upd_ne hbp];exact G.row j b hj
  ·obtain ⟨hj1,_⟩:=List.getElem?_eq_some_iff.mp hj
   have hj2:j=rs.length:=by rw [List.length_append,List.length_singleton] at hj1;omega
   subst hj2
   rw [List.getElem?_append_right (Nat.le_refl _),Nat.sub_self] at hj
   cases hj
   rw [upd_same]
 ·have:(l :: (rs++[p])).Nodup:=by
   rw [← List.cons_append]
   exact nd_snoc G.nd np
  exact this
 ·have hb:b∈(l :: rs)++[p]:=hb
  rcases List.mem_append.mp hb with hb | hb
  ·exact G.new b hb
  ·rw [List.mem_singleton.mp hb];exact G.same.free hp
 ·have hbl:b≠l:=ne_of_none e (G.new l List.mem_cons_self)
  have e':=G.same b o e
  rw [upd_ne hbl,upd_ne (ne_of_none e' hp)]
  exact e'
theorem Grown.mat {H H':Hp} {l:Addr} {rs:List Addr} {f:Nat→List Int} (G:Grown H H' l rs f):Mat H' l rs ((List.range rs.length).map f) :=
 ⟨G.top,by simp,fun i r row h1 h2=>by
  rw [List.getElem?_map] at h2
  obtain ⟨hi,_⟩:=List.getElem?_eq_some_iff.mp h1
  rw [List.getElem?_range hi] at h2
  cases h2
  exact G.row i r h1,G.nd⟩
theorem Grown.step {H H' H'':Hp} {l p:Addr} {rs:List Addr} {f:Nat→List Int} (G:Grown H H' l rs f) (hp:H' p=none) (top:H'' l=some (.lst ((rs++[p]).map V.ref))) (row:H'' p=some (.lst ((f rs.length).map V.int)))
  (keep:∀ b o,b≠l→(b∈rs∨H b≠none)→H' b=some o→H'' b=some o):Grown H H'' l (rs++[p]) f:=by
 have np:=G.fresh hp
 have hpl:p≠l:=fun z=>np (by rw [z];exact List.mem_cons_self)
 have nl:l∉rs:=(List.nodup_cons.mp G.nd).1
 refine ⟨top,fun j b hj=>?_,?_,fun b hb=>?_,fun b o e=>?_⟩
 ·by_cases hlt:j < rs.length
  ·rw [List.getElem?_append_left hlt] at hj
   have hm:=List.mem_of_getElem? hj
   exact keep b _ (fun z=>nl (z ▸ hm)) (.inl hm) (G.row j b hj)
  ·obtain ⟨hj1,_⟩:=List.getElem?_eq_some_iff.mp hj
   have hj2:j=rs.length:=by rw [List.length_append,List.length_singleton] at hj1;omega
   subst hj2
   rw [List.getElem?_append_right (Nat.le_refl _),Nat.sub_self] at hj
   cases hj
   exact row
 ·have:(l :: (rs++[p])).Nodup:=by
   rw [← List.cons_append]
   exact nd_snoc G.nd np
  exact this
 ·have hb:b∈(l :: rs)++[p]:=hb
  rcases List.mem_append.mp hb with hb | hb
  ·exact G.new b hb
  ·rw [List.mem_singleton.mp hb];exact G.same.free hp
 ·have hbl:b≠l:=ne_of_none e (G.new l List.mem_cons_self)
  exact keep b o hbl (.inr (by rw [e];intro z;cases z)) (G.same b o e)
theorem Grown.matOf {H H':Hp} {l:Addr} {rs:List Addr} {rss:List (List Int)} (G:Grown H H' l rs (fun j=>rss.getD j [])) (hlen:rs.length=rss.length):Mat H' l rs rss:=by
 have:=G.mat
 rw [hlen] at this
 have e:(List.range rss.length).map (fun j=>rss.getD j [])=rss:=by
  apply List.ext_getElem
  ·simp
  ·intro i h1 h2
   simp [List.getD_eq_getElem?_getD,List.getElem?_eq_getElem h2]
 rw [e] at this
 exact this
theorem comp_copy {K:PySem.W.Frag} {H:Hp} {a:Addr} {rs:List Addr} {rss:List (List Int)} {σ:L2.St} {Q:VK} (M:Mat H a rs rss) (h900:rss.length≤900)
  (q:∀ aw rs' H',Same H H'→Mat H' aw rs' rss→(∀ b∈aw :: rs',H b=none)→Q (.ref aw) H') :
  CompR [none] (gName 0) (tCB (fun xs H Q=>∃ p ys,xs=[.ref p]∧(SqL K H p ys∨SqT K H p ys)∧∀ l,H l=none→Q (.ref l) (upd H l (.lst ys))) (tCons (tVar 0) tNil)) σ Q (Itl K a) H:=by
 refine comp_list (xs:=rs.map V.ref) (fun aw i ys H'=>∃ rs',ys=rs'.map V.ref∧rs'.length=i∧Grown H H' aw rs' (fun j=>rss.getD j [])) (fun aw haw=>⟨[],rfl,rfl,Grown.start haw⟩) (fun aw i ys H' haw _ p=>by obtain ⟨rs',_,_,G⟩:=p;exact SqL.of (G.same _ _ M.top)) (fun aw i x ys H' haw hx p=>?_) (fun aw ys H' haw p=>?_)
 ·obtain ⟨rs',rfl,hlen,G⟩:=p
  obtain ⟨r,rfl,hr'⟩:=ref_map_inv hx
  obtain ⟨hi,_⟩:=List.getElem?_eq_some_iff.mp hr'
  have hi':i < rss.length:=by rw [← M.len];exact hi
  have hrow:=M.row i r rss[i] hr' (List.getElem?_eq_getElem hi')
  have egd:rss.getD rs'.length []=rss[i]:=by rw [hlen,List.getD_eq_getElem?_getD,List.getElem?_eq_getElem hi',Option.getD_some]
  walk_at "w";refine ⟨Wk.set rfl,?_⟩
  walk_at "w";refine ⟨r,_,rfl,.inl (SqL.of (G.same _ _ hrow)),fun l0 hl0=>?_⟩
  have hla:aw≠l0:=fun z=>G.fresh hl0 (by rw [z];exact List.mem_cons_self)
  refine ⟨by rw [upd_ne hla];exact G.top,small1000 (by simp;omega),rs'++[l0],by simp,by simp [hlen],?_⟩
  have:=G.snoc hl0
  rw [egd] at this
  exact this
 ·obtain ⟨rs',rfl,hlen,G⟩:=p
  have hlen':rs'.length=rss.length:=by rw [hlen,List.length_map,M.len]
  refine q aw rs' H' G.same ?_ G.new
  have:=G.mat
  rw [hlen'] at this
  have e:(List.range rss.length).map (fun j=>rss.getD j [])=rss:=by
   apply List.ext_getElem
   ·simp
   ·intro i h1 h2
    simp [List.getD_eq_getElem?_getD,List.getElem?_eq_getElem h2]
  rw [e] at this
  exact this
theorem dts_bl (K:PySem.W.Frag) (H:Hp):∀ ns:List Bool,Dts K H (ns.map V.bl) (ns.map PyData.bool)
 | []=>.nil
 | b :: r=>.cons (.bl b) (dts_bl K H r)
theorem lay_bl:∀ ns:List Bool,PyData.canLayAll0 (ns.map PyData.bool)=true
 | []=>rfl
 | _ :: r=>by simp [PyData.canLayAll0,PyData.canLay0,lay_bl r]
theorem depth_bl:∀ ns:List Bool,PyData.depthAll (ns.map PyData.bool)=0
 | []=>rfl
 | _ :: r=>by simp [PyData.depthAll,PyData.depth,depth_bl r]
theorem shaped_bl (ns:List Bool):SeqAt.shaped (.list (ns.map PyData.bool))=true:=by
 simp [SeqAt.shaped,PyData.canLay0,PyData.depth,lay_bl,depth_bl]
theorem eqv_bl:∀ ns:List Bool,PyData.eqvAll (ns.map PyData.bool) (ns.map PyData.bool)=true
 | []=>by simp [PyData.eqvAll]
 | b :: r=>by simp [PyData.eqvAll,PyData.eqv,eqv_bl r]
theorem eqv_bls (ns:List Bool):PyData.eqv (.list (ns.map PyData.bool)) (.list (ns.map PyData.bool))=true:=by
 simp [PyData.eqv,eqv_bl]
def SmallW (ws:List Int):Prop:=∀ x∈ws,-1000000≤x∧x≤1000000
def bkf (d:Int) (nb:Addr):List (Str×V):=putF "noted" (.ref nb) (putF "doors" (.int d) [])
theorem s_nd:¬ (("noted":Str)="doors"):=by decide +kernel
theorem bkf_doors (d:Int) (nb:Addr):(bkf d nb).lookup ("doors":Str)=some (.int d):=by
 unfold bkf;rw [lookup_putF,if_neg (fun z=>s_nd z.symm),lookup_putF,if_pos rfl]
theorem bkf_noted (d:Int) (nb:Addr):(bkf d nb).lookup ("noted":Str)=some (.ref nb):=by
 unfold bkf;rw [lookup_putF,if_pos rfl]
theorem bkf_no (d:Int) (nb:Addr) {m:Str} (h1:¬ m="noted") (h2:¬ m="doors"):(bkf d nb).lookup m=none:=by
 unfold bkf;rw [lookup_putF,if_neg h1,lookup_putF,if_neg h2];rfl
def bkv (x:List Int×Bool):List Key×V:=(x.1.map Sum.inl,.bl x.2)
def saidV (kvs:List (List Int×Bool)) (ws:List Int):V:=((saidO kvs ws).map V.bl).getD .non
theorem inl_inj:∀ {a b:List Int},a.map (Sum.inl:Int→Key)=b.map Sum.inl→a=b
 | [],[],_=>rfl
 | [],_ :: _,h=>by simp at h
 | _ :: _,[],h=>by simp at h
 | x :: a,y :: b,h=>by
  simp only [List.map_cons,List.cons.injEq] at h
  rw [Sum.inl.inj h.1,inl_inj h.2]
theorem valV_bkv (ws:List Int):∀ kvs:List (List Int×Bool),valV (kvs.map bkv) (ws.map Sum.inl)=(saidO kvs ws).map V.bl
 | []=>rfl
 | (w,b) :: r=>by
  by_cases h:w=ws
  ·subst h
   rw [List.map_cons,show bkv (w,b)=(w.map Sum.inl,V.bl b) from rfl,valV_pos (p:=(w.map Sum.inl,V.bl b)) (k:=w.map Sum.inl) rfl]
   simp [saidO,bkv]
  ·rw [List.map_cons,valV_neg (fun z=>h (inl_inj z)),valV_bkv ws r]
   simp [saidO,h]
theorem kv_inl (ws:List Int):(ws.map (Sum.inl:Int→Key)).map kV=ws.map V.int:=by
 rw [List.map_map];exact congrArg (fun f=>List.map f ws) (funext fun x=>rfl)
structure BookAt (C:Addr) (H:Hp) (p:Addr) (d:Int) (nb:Addr) (kvs:List (List Int×Bool)):Prop where
 ob:∃ dx,H p=some (.ins C dx (bkf d nb))
 noted:H nb=some (.dT (kvs.map bkv))
 nd:(kvs.map Prod.fst).Nodup
theorem BookAt.same {C:Addr} {H H':Hp} {p:Addr} {d:Int} {nb:Addr} {kvs:List (List Int×Bool)} (e:Same H H') (h:BookAt C H p d nb kvs):BookAt C H' p d nb kvs :=
 ⟨let ⟨dx,q⟩:=h.ob;⟨dx,e _ _ q⟩,e _ _ h.noted,h.nd⟩
theorem saidO_fresh {kvs:List (List Int×Bool)} {ws:List Int} (h:saidO kvs ws=none):ws∉kvs.map Prod.fst:=fun z=>by
 obtain ⟨kv,h1,rfl⟩:=List.mem_map.mp z
 unfold saidO at h
 rw [Option.map_eq_none_iff,List.find?_eq_none] at h
 exact h kv h1 (by simp)
theorem book_nd {kvs:List (List Int×Bool)} {ws:List Int} {lit:Bool} (h:(kvs.map Prod.fst).Nodup) (hn:saidO kvs ws=none):((kvs++[(ws,lit)]).map Prod.fst).Nodup:=by
 rw [List.map_append,List.map_cons,List.map_nil]
 refine List.nodup_append.mpr ⟨h,by simp,fun a ha b hb e=>?_⟩
 have e:a=ws:=by rw [e,List.mem_singleton.mp hb]
 exact saidO_fresh hn (by rw [← e];exact ha)
theorem book_again {kvs:List (List Int×Bool)} {ws:List Int} {lit:Bool} (h:(kvs.map Prod.fst).Nodup) (hs:saidO kvs ws=some lit):putK (kvs.map bkv) (ws.map Sum.inl) (.bl lit)=kvs.map bkv:=by
 unfold putK
 rw [if_pos (by rw [valV_any,valV_bkv,hs];rfl),List.map_map]
 refine List.map_congr_left fun kv hk=>?_
 show (if (kv.1.map Sum.inl:List Key)=ws.map Sum.inl then ((kv.1.map Sum.inl:List Key),V.bl lit) else bkv kv)=bkv kv
 by_cases e:kv.1=ws
 ·rw [if_pos (by rw [e])]
  have:kv.2=lit:=by
   unfold saidO at hs
   obtain ⟨kv',h1,h2⟩:=Option.map_eq_some_iff.mp hs
   have h3:=List.find?_some h1
   have h4:=List.mem_of_find?_eq_some h1
   have h5:kv'.1=kv.1:=by rw [e];simpa using h3
   obtain ⟨i,hi⟩:=List.getElem?_of_mem hk
   obtain ⟨j,hj⟩:=List.getElem?_of_mem h4
   have hij:i=j:=by
    refine (List.getElem?_inj (l:=kvs.map Prod.fst) (by rw [List.length_map];exact (List.getElem?_eq_some_iff.mp hi).1) h).mp ?_
    rw [List.getElem?_map,List.getElem?_map,hi,hj]
    simp [h5]
   subst hij
   rw [hi] at hj
   rw [Option.some.inj hj];exact h2
  rw [← this];rfl
 ·rw [if_neg (fun z=>e (inl_inj z))]
theorem getElem?_snoc {α:Type} {l:List α} {x y:α} {i:Nat} (h:(l++[x])[i]?=some y):(i < l.length∧l[i]?=some y)∨(i=l.length∧y=x):=by
 rcases Nat.lt_or_ge i l.length with hl | hl
 ·rw [List.getElem?_append_left hl] at h;exact .inl ⟨hl,h⟩
 ·rw [List.getElem?_append_right hl] at h
  have hz:i - l.length=0:=by
   have:=(List.getElem?_eq_some_iff.mp h).1
   simp at this;omega
  rw [hz] at h
  simp at h
  exact .inr ⟨by omega,h.symm⟩
theorem take_snocA {α:Type} {w:List α} {i:Nat} {x:α} (h:w[i]?=some x):w.take (i+1)=w.take i++[x]:=by
 rw [List.take_add_one,h];rfl
structure LA where
 bk:Addr
 nb:Addr
 ha:Addr
 ta:Addr
 li:Addr
 ro:Addr
 hA:List Addr
 tA:List Addr
 lA:List Addr
 rA:List Addr
def mutL (p:Addr) (L:LA):List Addr:=p :: L.bk :: L.nb :: L.ha :: L.ta :: L.li :: L.ro :: L.rA
def wdsL (L:LA):List Addr:=L.hA++L.tA++L.lA
def ownL (p:Addr) (L:LA):List Addr:=mutL p L++wdsL L
structure LFs (fs:List (Str×V)) (d:Int) (L:LA) (f:Nat):Prop where
 book:fs.lookup ("book":Str)=some (.ref L.bk)
 doors:fs.lookup ("doors":Str)=some (.int d)
 heads:fs.lookup ("heads":Str)=some (.ref L.ha)
 tails:fs.lookup ("tails":Str)=some (.ref L.ta)
 lines:fs.lookup ("lines":Str)=some (.ref L.li)
 rows:fs.lookup ("rows":Str)=some (.ref L.ro)
 filled:fs.lookup ("filled":Str)=some (.int (f:Int))
 no:∀ m:Str,m∉(["book","doors","heads","tails","lines","rows","filled"]:List Str)→fs.lookup m=none
 len:fs.length≤100
structure LrnAt (C CB:Addr) (H:Hp) (p:Addr) (d:Int) (L:LA) (kn:Bk) (heads tails:List (List Int)) (rows:List (List Bool)) (f:Nat):Prop where
 ob:∃ dx fs,H p=some (.ins C dx fs)∧LFs fs d L f
 book:BookAt CB H L.bk d L.nb kn
 hds:H L.ha=some (.lst (L.hA.map V.ref))
 hdw:LsAt V.int H L.hA heads
 tls:H L.ta=some (.lst (L.tA.map V.ref))
 tlw:LsAt V.int H L.tA tails
 lns:H L.li=some (.lst (L.lA.map V.ref))
 lnw:LsAt V.int H L.lA (linesOf d heads)
 rws:H L.ro=some (.lst (L.rA.map V.ref))
 rww:LsAt V.bl H L.rA rows
 nd:(mutL p L).Nodup
 sep:∀ a∈wdsL L,a∉mutL p L
theorem _root_.L2.LsAt.keep {α:Type} {g:α→V} {H H':Hp} {as:List Addr} {ws:List (List α)} (l:LsAt g H as ws) (k:∀ b∈as,∀ o,H b=some o→H' b=some o):LsAt g H' as ws :=
 ⟨l.len,fun i a w h1 h2=>k a (List.mem_of_getElem? h1) _ (l.row i a w h1 h2)⟩
theorem _root_.L2.LsAt.snoc {α:Type} {g:α→V} {H:Hp} {as:List Addr} {ws:List (List α)} (l:LsAt g H as ws) {a:Addr} {w:List α} (h:H a=some (.lst (w.map g))):LsAt g H (as++[a]) (ws++[w]):=by
 refine ⟨by rw [List.length_append,List.length_append,l.len];rfl,fun i b v h1 h2=>?_⟩
 by_cases hi:i < as.length
 ·rw [List.getElem?_append_left hi] at h1
  rw [List.getElem?_append_left (by rw [← l.len];exact hi)] at h2
  exact l.row i b v h1 h2
 ·have h3:=(List.getElem?_eq_some_iff.mp h1).1
  rw [List.length_append,List.length_singleton] at h3
  have hi2:i=as.length:=by omega
  rw [hi2,List.getElem?_append_right (Nat.le_refl _),Nat.sub_self] at h1
  rw [hi2,l.len,List.getElem?_append_right (Nat.le_refl _),Nat.sub_self] at h2
  cases h1;cases h2
  exact h
theorem _root_.L2.LsAt.app {α:Type} {g:α→V} {H:Hp} {as bs:List Addr} {ws vs:List (List α)} (l:LsAt g H as ws) (m:LsAt g H bs vs):LsAt g H (as++bs) (ws++vs):=by
 refine ⟨by rw [List.length_append,List.length_append,l.len,m.len],fun i b v h1 h2=>?_⟩
 by_cases hi:i < as.length
 ·rw [List.getElem?_append_left hi] at h1
  rw [List.getElem?_append_left (by rw [← l.len];exact hi)] at h2
  exact l.row i b v h1 h2
 ·rw [List.getElem?_append_right (by omega)] at h1
  rw [List.getElem?_append_right (by rw [← l.len];omega),← l.len] at h2
  exact m.row _ b v h1 h2
theorem _root_.L2.LsAt.get {α:Type} {g:α→V} {H:Hp} {as:List Addr} {ws:List (List α)} (l:LsAt g H as ws) {i:Nat} {w:List α} (h:ws[i]?=some w):∃ a,as[i]?=some a∧(as.map V.ref)[i]?=some (.ref a)∧H a=some (.lst (w.map g)):=by
 have hi:i < as.length:=by rw [l.len];exact (List.getElem?_eq_some_iff.mp h).1
 refine ⟨as[i],List.getElem?_eq_getElem hi,by rw [List.getElem?_map,List.getElem?_eq_getElem hi];rfl,l.row i _ w (List.getElem?_eq_getElem hi) h⟩
theorem LFs.of {fs:List (Str×V)} {d:Int} {L L':LA} {f:Nat} (h:LFs fs d L f) (e1:L'.bk=L.bk) (e2:L'.ha=L.ha) (e3:L'.ta=L.ta) (e4:L'.li=L.li) (e5:L'.ro=L.ro):LFs fs d L' f :=
 ⟨by rw [e1];exact h.book,h.doors,by rw [e2];exact h.heads,by rw [e3];exact h.tails,by rw [e4];exact h.lines,by rw [e5];exact h.rows,h.filled,h.no,h.len⟩
theorem putF_len {f:Str} {v:V}:∀ {fs:List (Str×V)},fs.lookup f≠none→(putF f v fs).length=fs.length
 | [],h=>absurd rfl h
 | (g,x) :: r,h=>by
  unfold putF
  by_cases e:g=f
  ·rw [if_pos e];rfl
  ·rw [if_neg e,List.length_cons,List.length_cons,putF_len]
   intro z
   apply h
   have hb:(f == g)=false:=beq_eq_false_iff_ne.mpr fun z=>e z.symm
   simp only [List.lookup,hb]
   exact z
theorem LFs.setF {fs:List (Str×V)} {d:Int} {L:LA} {f:Nat} (h:LFs fs d L f) (f':Nat):LFs (putF "filled" (.int (f':Int)) fs) d L f':=by
 have n:∀ m:Str,m≠"filled"→(putF "filled" (.int (f':Int)) fs).lookup m=fs.lookup m:=fun m hm=>by rw [lookup_putF,if_neg hm]
 refine ⟨by rw [n _ (by decide +kernel)];exact h.book,by rw [n _ (by decide +kernel)];exact h.doors,by rw [n _ (by decide +kernel)];exact h.heads,by rw [n _ (by decide +kernel)];exact h.tails,by rw [n _ (by decide +kernel)];exact h.lines,by rw [n _ (by decide +kernel)];exact h.rows,by rw [lookup_putF,if_pos rfl],fun m hm=>?_,?_⟩
 ·rw [n m fun z=>hm (by rw [z];simp)];exact h.no m hm
 ·rw [putF_len (by rw [h.filled];intro z;cases z)];exact h.len
section
variable {C CB:Addr} {H H':Hp} {p:Addr} {d:Int} {L:LA} {kn:Bk} {heads tails:List (List Int)} {rows:List (List Bool)} {f:Nat}
theorem own_mut {b:Addr} (h:b∈mutL p L):b∈ownL p L:=List.mem_append_left _ h
theorem own_wd {b:Addr} (h:b∈wdsL L):b∈ownL p L:=List.mem_append_right _ h
theorem wd_h {b:Addr} (h:b∈L.hA):b∈wdsL L:=List.mem_append_left _ (List.mem_append_left _ h)
theorem wd_t {b:Addr} (h:b∈L.tA):b∈wdsL L:=List.mem_append_left _ (List.mem_append_right _ h)
theorem wd_l {b:Addr} (h:b∈L.lA):b∈wdsL L:=List.mem_append_right _ h
theorem mut_p:p∈mutL p L:=by simp [mutL]
theorem mut_bk:L.bk∈mutL p L:=by simp [mutL]
theorem mut_nb:L.nb∈mutL p L:=by simp [mutL]
theorem mut_ha:L.ha∈mutL p L:=by simp [mutL]
theorem mut_ta:L.ta∈mutL p L:=by simp [mutL]
theorem mut_li:L.li∈mutL p L:=by simp [mutL]
theorem mut_ro:L.ro∈mutL p L:=by simp [mutL]
theorem mut_r {b:Addr} (h:b∈L.rA):b∈mutL p L:=by simp [mutL,h]
theorem LrnAt.keep (l:LrnAt C CB H p d L kn heads tails rows f) (k:∀ b∈ownL p L,∀ o,H b=some o→H' b=some o):LrnAt C CB H' p d L kn heads tails rows f:=by
 obtain ⟨dx,fs,h1,h2⟩:=l.ob
 obtain ⟨bx,hb⟩:=l.book.ob
 exact ⟨⟨dx,fs,k _ (own_mut mut_p) _ h1,h2⟩,⟨⟨bx,k _ (own_mut mut_bk) _ hb⟩,k _ (own_mut mut_nb) _ l.book.noted,l.book.nd⟩,k _ (own_mut mut_ha) _ l.hds,l.hdw.keep fun b hb=>k b (own_wd (wd_h hb)),k _ (own_mut mut_ta) _ l.tls,l.tlw.keep fun b hb=>k b (own_wd (wd_t hb)),
  k _ (own_mut mut_li) _ l.lns,l.lnw.keep fun b hb=>k b (own_wd (wd_l hb)),k _ (own_mut mut_ro) _ l.rws,l.rww.keep fun b hb=>k b (own_mut (mut_r hb)),l.nd,l.sep⟩
theorem LrnAt.same (l:LrnAt C CB H p d L kn heads tails rows f) (e:Same H H'):LrnAt C CB H' p d L kn heads tails rows f:=l.keep fun b _ o q=>e b o q
theorem LrnAt.has (l:LrnAt C CB H p d L kn heads tails rows f) {b:Addr} (h:b∈ownL p L):∃ o,H b=some o:=by
 rcases List.mem_append.mp h with h | h
 ·simp only [mutL,List.mem_cons] at h
  rcases h with rfl | rfl | rfl | rfl | rfl | rfl | rfl | h
  ·obtain ⟨_,_,h,_⟩:=l.ob;exact ⟨_,h⟩
  ·obtain ⟨_,h⟩:=l.book.ob;exact ⟨_,h⟩
  ·exact ⟨_,l.book.noted⟩
  ·exact ⟨_,l.hds⟩
  ·exact ⟨_,l.tls⟩
  ·exact ⟨_,l.lns⟩
  ·exact ⟨_,l.rws⟩
  ·obtain ⟨_,_,h⟩:=l.rww.mem h;exact ⟨_,h⟩
 ·rcases List.mem_append.mp h with h | h
  ·rcases List.mem_append.mp h with h | h
   ·obtain ⟨_,_,h⟩:=l.hdw.mem h;exact ⟨_,h⟩
   ·obtain ⟨_,_,h⟩:=l.tlw.mem h;exact ⟨_,h⟩
  ·obtain ⟨_,_,h⟩:=l.lnw.mem h;exact ⟨_,h⟩
theorem LrnAt.notOwn (l:LrnAt C CB H p d L kn heads tails rows f) {b:Addr} (h:H b=none):b∉ownL p L:=fun z=>by
 obtain ⟨o,e⟩:=l.has z
 rw [h] at e;cases e
end
structure LStep (p:Addr) (L L':LA) (H H':Hp):Prop where
 kp:∀ b o,b∉mutL p L→H b=some o→H' b=some o
 own:∀ b∈ownL p L',b∈ownL p L∨H b=none
 mu:∀ b∈mutL p L',b∈mutL p L∨H b=none
theorem LStep.of {p:Addr} {L:LA} {H H':Hp} (k:∀ b o,b∉mutL p L→H b=some o→H' b=some o):LStep p L L H H':=⟨k,fun b h=>.inl h,fun b h=>.inl h⟩
theorem LStep.same {p:Addr} {L:LA} {H H':Hp} (e:Same H H'):LStep p L L H H':=.of fun b o _ q=>e b o q
theorem LStep.trans {p:Addr} {L L1 L2:LA} {H H1 H2:Hp} (a:LStep p L L1 H H1) (b:LStep p L1 L2 H1 H2):LStep p L L2 H H2:=by
 have fr:∀ c,H1 c=none→c∈mutL p L∨H c=none:=fun c e=>by
  by_cases hc:c∈mutL p L
  ·exact .inl hc
  ·refine .inr ?_
   cases hh:H c with
   | none=>rfl
   | some o=>rw [a.kp c o hc hh] at e;cases e
 refine ⟨fun c o hc e=>?_,fun c hc=>?_,fun c hc=>?_⟩
 ·refine b.kp c o (fun z=>?_) (a.kp c o hc e)
  rcases a.mu c z with h | h
  ·exact hc h
  ·rw [h] at e;cases e
 ·rcases b.own c hc with h | h
  ·exact a.own c h
  ·rcases fr c h with h | h
   ·exact .inl (own_mut h)
   ·exact .inr h
 ·rcases b.mu c hc with h | h
  ·exact a.mu c h
  ·exact fr c h
section
variable {C CB:Addr} {H H':Hp} {p:Addr} {d:Int} {L:LA} {kn:Bk} {heads tails:List (List Int)} {rows:List (List Bool)} {f:Nat}
theorem LrnAt.setF (l:LrnAt C CB H p d L kn heads tails rows f) {dx:Addr} {fs:List (Str×V)} {f':Nat} (h:LFs fs d L f'):LrnAt C CB (upd H p (.ins C dx fs)) p d L kn heads tails rows f'∧LStep p L L H (upd H p (.ins C dx fs)):=by
 have k:∀ b o,b≠p→H b=some o→upd H p (.ins C dx fs) b=some o:=fun b o hb e=>by rw [upd_ne hb];exact e
 have nd:=l.nd
 simp only [mutL,List.nodup_cons,List.mem_cons,not_or] at nd
 obtain ⟨⟨n1,n2,n3,n4,n5,n6,n7⟩,_⟩:=nd
 obtain ⟨bx,hb⟩:=l.book.ob
 have sw:∀ b∈wdsL L,b≠p:=fun b hb z=>l.sep b hb (by rw [z];exact mut_p)
 refine ⟨⟨⟨dx,fs,upd_same,h⟩,⟨⟨bx,k _ _ (Ne.symm n1) hb⟩,k _ _ (Ne.symm n2) l.book.noted,l.book.nd⟩,k _ _ (Ne.symm n3) l.hds,l.hdw.keep fun b hb o=>k b o (sw b (wd_h hb)),k _ _ (Ne.symm n4) l.tls,l.tlw.keep fun b hb o=>k b o (sw b (wd_t hb)),
  k _ _ (Ne.symm n5) l.lns,l.lnw.keep fun b hb o=>k b o (sw b (wd_l hb)),k _ _ (Ne.symm n6) l.rws,l.rww.keep fun b hb o=>k b o fun z=>n7 (by rw [← z];exact hb),l.nd,l.sep⟩,.of fun b o hb e=>k b o (fun z=>hb (by rw [z];exact mut_p)) e⟩
theorem _root_.L2.LsAt.set {α:Type} {g:α→V} {as:List Addr} {ws:List (List α)} (l:LsAt g H as ws) (hn:as.Nodup) {k:Nat} {a:Addr} (ha:as[k]?=some a) (w:List α):LsAt g (upd H a (.lst (w.map g))) as (ws.set k w):=by
 refine ⟨by rw [List.length_set];exact l.len,fun i b v h1 h2=>?_⟩
 by_cases hi:k=i
 ·subst hi
  rw [ha] at h1;cases h1
  rw [List.getElem?_set_self (by rw [← l.len];exact (List.getElem?_eq_some_iff.mp ha).1)] at h2
  cases h2
  exact upd_same
 ·rw [List.getElem?_set_ne hi] at h2
  have hb:b≠a:=fun z=>by
   subst z
   obtain ⟨q1,e1⟩:=List.getElem?_eq_some_iff.mp ha
   obtain ⟨q2,e2⟩:=List.getElem?_eq_some_iff.mp h1
   exact hi ((List.getElem_inj hn).mp (e1.trans e2.symm))
  rw [upd_ne hb]
  exact l.row i b v h1 h2
theorem LrnAt.rnd (l:LrnAt C CB H p d L kn heads tails rows f):L.rA.Nodup∧p∉L.rA∧L.bk∉L.rA∧L.nb∉L.rA∧L.ha∉L.rA∧L.ta∉L.rA∧L.li∉L.rA∧L.ro∉L.rA:=by
 have nd:=l.nd
 simp only [mutL,List.nodup_cons,List.mem_cons,not_or] at nd
 obtain ⟨⟨_,_,_,_,_,_,a1⟩,⟨_,_,_,_,_,a2⟩,⟨_,_,_,_,a3⟩,⟨_,_,_,a4⟩,⟨_,_,a5⟩,⟨_,a6⟩,a7,a8⟩:=nd
 exact ⟨a8,a1,a2,a3,a4,a5,a6,a7⟩
theorem LrnAt.setR (l:LrnAt C CB H p d L kn heads tails rows f) {k:Nat} {ra:Addr} (hr:L.rA[k]?=some ra) (r:List Bool):LrnAt C CB (upd H ra (.lst (r.map V.bl))) p d L kn heads tails (rows.set k r) f∧LStep p L L H (upd H ra (.lst (r.map V.bl))):=by
 have hm:=List.mem_of_getElem? hr
 have k:∀ b o,b≠ra→H b=some o→upd H ra (.lst (r.map V.bl)) b=some o:=fun b o hb e=>by rw [upd_ne hb];exact e
 obtain ⟨nd,n1,n2,n3,n4,n5,n6,n7⟩:=l.rnd
 have ne:∀ b,b∉L.rA→b≠ra:=fun b hb z=>hb (by rw [z];exact hm)
 obtain ⟨dx,fs,h1,h2⟩:=l.ob
 obtain ⟨bx,hb⟩:=l.book.ob
 have sw:∀ b∈wdsL L,b≠ra:=fun b hb z=>l.sep b hb (by rw [z];exact mut_r hm)
 exact ⟨⟨⟨dx,fs,k _ _ (ne _ n1) h1,h2⟩,⟨⟨bx,k _ _ (ne _ n2) hb⟩,k _ _ (ne _ n3) l.book.noted,l.book.nd⟩,k _ _ (ne _ n4) l.hds,l.hdw.keep fun b hb o=>k b o (sw b (wd_h hb)),k _ _ (ne _ n5) l.tls,l.tlw.keep fun b hb o=>k b o (sw b (wd_t hb)),
  k _ _ (ne _ n6) l.lns,l.lnw.keep fun b hb o=>k b o (sw b (wd_l hb)),k _ _ (ne _ n7) l.rws,l.rww.set nd hr r,l.nd,l.sep⟩,.of fun b o hb e=>k b o (fun z=>hb (by rw [z];exact mut_r hm)) e⟩
end
structure Small (heads tails:List (List Int)) (kn:Bk):Prop where
 hs:heads.length≤400
 ts:tails.length≤100000
 tw:∀ t∈tails,t.length≤100000
 ks:kn.length≤100000
theorem big6 {n:Nat} (h:n≤1000000):n < sizeLine:=Nat.lt_of_le_of_lt h (by decide)
structure LS (C CB:Addr) (H:Hp) (p:Addr) (d:Int) (L:LA) (kn:Bk) (heads tails:List (List Int)):Prop where
 ex:∃ rows f,LrnAt C CB H p d L kn heads tails rows f∧RowsOk d kn heads tails rows f
 I:LI d kn heads tails
 st:nextQ d kn heads tails≠none∨looseOf d kn heads tails=none
theorem LS.keep {C CB:Addr} {H H':Hp} {p:Addr} {d:Int} {L:LA} {kn:Bk} {heads tails:List (List Int)} (s:LS C CB H p d L kn heads tails) (k:∀ b∈ownL p L,∀ o,H b=some o→H' b=some o):LS C CB H' p d L kn heads tails:=by
 obtain ⟨rows,f,l,R⟩:=s.ex
 exact ⟨⟨rows,f,l.keep k,R⟩,s.I,s.st⟩
theorem LS.same {C CB:Addr} {H H':Hp} {p:Addr} {d:Int} {L:LA} {kn:Bk} {heads tails:List (List Int)} (s:LS C CB H p d L kn heads tails) (e:Same H H'):LS C CB H' p d L kn heads tails:=s.keep fun b _ o q=>e b o q
theorem LI.lines1000 {d:Int} {kn:Bk} {heads tails:List (List Int)} (I:LI d kn heads tails) (h:heads.length≤400):∀ l∈linesOf d heads,l.length≤1000:=fun l hl=>by
 have:=(I.lok hl).2
 omega
theorem wok_small {d:Int} {w:List Int} (h:WordOk d w) (hd:d≤6):SmallW w:=fun x hx=>by
 obtain ⟨h0,h1⟩:=h x hx
 constructor <;> omega
section
variable {C CB:Addr} {H H':Hp} {p:Addr} {d:Int} {L:LA} {kn:Bk} {heads tails:List (List Int)} {rows:List (List Bool)} {f:Nat}
theorem LrnAt.noted (l:LrnAt C CB H p d L kn heads tails rows f) {kn':Bk} (hb:BookAt CB H' L.bk d L.nb kn') (k:∀ y o,y≠L.nb→H y=some o→H' y=some o):LrnAt C CB H' p d L kn' heads tails rows f∧LStep p L L H H':=by
 have nd:=l.nd
 simp only [mutL,List.nodup_cons,List.mem_cons,not_or] at nd
 obtain ⟨⟨_,p2,_,_,_,_,_⟩,⟨_,_,_,_,_,_⟩,⟨c3,c4,c5,c6,c7⟩,_⟩:=nd
 obtain ⟨dx,fs,h1,h2⟩:=l.ob
 have sw:∀ b∈wdsL L,b≠L.nb:=fun b hb z=>l.sep b hb (by rw [z];exact mut_nb)
 exact ⟨⟨⟨dx,fs,k _ _ p2 h1,h2⟩,hb,k _ _ (Ne.symm c3) l.hds,l.hdw.keep fun b hb o=>k b o (sw b (wd_h hb)),k _ _ (Ne.symm c4) l.tls,l.tlw.keep fun b hb o=>k b o (sw b (wd_t hb)),
  k _ _ (Ne.symm c5) l.lns,l.lnw.keep fun b hb o=>k b o (sw b (wd_l hb)),k _ _ (Ne.symm c6) l.rws,l.rww.keep fun b hb o=>k b o fun z=>c7 (by rw [← z];exact hb),l.nd,l.sep⟩,.of fun b o hb e=>k b o (fun z=>hb (by rw [z];exact mut_nb)) e⟩
theorem LrnAt.tail (l:LrnAt C CB H p d L kn heads tails rows f) {e:Addr} {w:List Int} (he:H e=some (.lst (w.map V.int))) (ne:e∉mutL p L):LrnAt C CB (upd H L.ta (.lst ((L.tA++[e]).map V.ref))) p d { L with tA:=L.tA++[e] } kn heads (tails++[w]) rows f∧∀ b o,b≠L.ta→H b=some o→upd H L.ta (.lst ((L.tA++[e]).map V.ref)) b=some o:=by
 have k:∀ b o,b≠L.ta→H b=some o→upd H L.ta (.lst ((L.tA++[e]).map V.ref)) b=some o:=fun b o hb q=>by rw [upd_ne hb];exact q
 have nd:=l.nd
 simp only [mutL,List.nodup_cons,List.mem_cons,not_or] at nd
 obtain ⟨⟨_,_,_,p4,_,_,_⟩,⟨_,_,b4,_,_,_⟩,⟨_,c4,_,_,_⟩,⟨d4,_,_,_⟩,⟨e5,e6,e7⟩,_⟩:=nd
 obtain ⟨dx,fs,h1,h2⟩:=l.ob
 obtain ⟨bx,hb⟩:=l.book.ob
 have sw:∀ b∈wdsL L,b≠L.ta:=fun b hb z=>l.sep b hb (by rw [z];exact mut_ta)
 have nee:e≠L.ta:=fun z=>ne (by rw [z];exact mut_ta)
 refine ⟨⟨⟨dx,fs,k _ _ p4 h1,h2.of rfl rfl rfl rfl rfl⟩,⟨⟨bx,k _ _ b4 hb⟩,k _ _ c4 l.book.noted,l.book.nd⟩,k _ _ d4 l.hds,l.hdw.keep fun b hb o=>k b o (sw b (wd_h hb)),upd_same,LsAt.snoc (l.tlw.keep fun b hb o=>k b o (sw b (wd_t hb))) (k _ _ nee he),
  k _ _ (Ne.symm e5) l.lns,l.lnw.keep fun b hb o=>k b o (sw b (wd_l hb)),k _ _ (Ne.symm e6) l.rws,l.rww.keep fun b hb o=>k b o fun z=>e7 (by rw [← z];exact hb),l.nd,fun b hb=>?_⟩,k⟩
 have hb':b∈wdsL L∨b=e:=by
  rcases List.mem_append.mp hb with hb | hb
  ·rcases List.mem_append.mp hb with hb | hb
   ·exact .inl (wd_h hb)
   ·rcases List.mem_append.mp hb with hb | hb
    ·exact .inl (wd_t hb)
    ·exact .inr (List.mem_singleton.mp hb)
  ·exact .inl (wd_l hb)
 rcases hb' with hb' | hb'
 ·exact l.sep b hb'
 ·rw [hb'];exact ne
theorem own_tail {e b:Addr} (h:b∈ownL p { L with tA:=L.tA++[e] }):b∈ownL p L∨b=e:=by
 rcases List.mem_append.mp h with h | h
 ·exact .inl (own_mut h)
 ·rcases List.mem_append.mp h with h | h
  ·rcases List.mem_append.mp h with h | h
   ·exact .inl (own_wd (wd_h h))
   ·rcases List.mem_append.mp h with h | h
    ·exact .inl (own_wd (wd_t h))
    ·exact .inr (List.mem_singleton.mp h)
  ·exact .inl (own_wd (wd_l h))
end
set_option genInjectivity false in
set_option genSizeOf false in
structure Adr where
 C_House:Addr
 C_Book:Addr
 C_Learner:Addr
 C_HouseError:Addr
 C_BadHouse:Addr
 C_BadWord:Addr
 C_NoRoom:Addr
 C_OtherDoors:Addr
 C_TooGreat:Addr
 C_NoSuch:Addr
 C_SaidOtherwise:Addr
 C_NotAsked:Addr
 C_NotYet:Addr
 C_NotWrong:Addr
 C_BadText:Addr
 f_check_doors:Addr
 fd_check_doors:FuncData
 f_check_house:Addr
 fd_check_house:FuncData
 f_check_word:Addr
 fd_check_word:FuncData
 f_House_init:Addr
 fd_House_init:FuncData
 f_House_rooms:Addr
 fd_House_rooms:FuncData
 f_House_trail:Addr
 fd_House_trail:FuncData
 f_House_room_of:Addr
 fd_House_room_of:FuncData
 f_House_says:Addr
 fd_House_says:FuncData
 f_Book_init:Addr
 fd_Book_init:FuncData
 f_Book_said:Addr
 fd_Book_said:FuncData
 f_Book_check_note:Addr
 fd_Book_check_note:FuncData
 f_Book_note:Addr
 fd_Book_note:FuncData
 f_leader:Addr
 fd_leader:FuncData
 f_newly_linked:Addr
 fd_newly_linked:FuncData
 f_pairs_behind:Addr
 fd_pairs_behind:FuncData
 f_parting_word:Addr
 fd_parting_word:FuncData
 f_check_room:Addr
 fd_check_room:FuncData
 f_apart:Addr
 fd_apart:FuncData
 f_check_same_doors:Addr
 fd_check_same_doors:FuncData
 f_difference:Addr
 fd_difference:FuncData
 f_pairs_ahead:Addr
 fd_pairs_ahead:FuncData
 f_numbers_of_pairs:Addr
 fd_numbers_of_pairs:FuncData
 f_truth_of:Addr
 fd_truth_of:FuncData
 f_mixed:Addr
 fd_mixed:FuncData
 f_one_door_more:Addr
 fd_one_door_more:FuncData
 f_counts_to:Addr
 fd_counts_to:FuncData
 f_word_at:Addr
 fd_word_at:FuncData
 f_Learner_add_head:Addr
 fd_Learner_add_head:FuncData
 f_Learner_init:Addr
 fd_Learner_init:FuncData
 f_Learner_gap:Addr
 fd_Learner_gap:FuncData
 f_Learner_question:Addr
 fd_Learner_question:FuncData
 f_Learner_heads_by_row:Addr
 fd_Learner_heads_by_row:FuncData
 f_Learner_unlike_edge:Addr
 fd_Learner_unlike_edge:FuncData
 f_Learner_add_unlike_edges:Addr
 fd_Learner_add_unlike_edges:FuncData
 f_Learner_answer:Addr
 fd_Learner_answer:FuncData
 f_Learner_guess:Addr
 fd_Learner_guess:FuncData
 f_Learner_add_tails:Addr
 fd_Learner_add_tails:FuncData
 f_Learner_wrong:Addr
 fd_Learner_wrong:FuncData
 f_written_numbers:Addr
 fd_written_numbers:FuncData
 f_number_of:Addr
 fd_number_of:FuncData
 f_lamp_of:Addr
 fd_lamp_of:FuncData
 f_doors_of:Addr
 fd_doors_of:FuncData
 f_read:Addr
 fd_read:FuncData
 f_l_cell_at:Addr
 fd_l_cell_at:FuncData
 f_l_ring:Addr
 fd_l_ring:FuncData
 f_l_taught:Addr
 fd_l_taught:FuncData
 f_l_do:Addr
 fd_l_do:FuncData
 f_l_marks:Addr
 fd_l_marks:FuncData
 f_law:Addr
 fd_law:FuncData
structure Txt (K:PySem.W.Frag) (mg:Str→Option Value) (t:Adr):Prop where
 m_len:mg "len"=none
 m_range:mg "range"=none
 m_isinstance:mg "isinstance"=none
 m_list:mg "list"=none
 m_enumerate:mg "enumerate"=none
 m_tuple:mg "tuple"=none
 m_str:mg "str"=none
 m_ValueError:mg "ValueError"=none
 m_sum:mg "sum"=none
 m_zip:mg "zip"=none
 mg_MOST_DOORS:∃ tk,mg "MOST_DOORS"=some (.int 6 tk)
 mg_MOST_ROOMS:∃ tk,mg "MOST_ROOMS"=some (.int 400 tk)
 mg_HEADING:∃ tk,mg "HEADING"=some (.str "doors " tk)
 mg_House:mg "House"=some (.ref t.C_House)
 cl_House:Cls K t.C_House
 tc_House:PySem.W.findIn K (.ref t.C_House) "__class__"=some (some (.builtin "object.__class__"))
 tm_House:PySem.W.mroIn K t.C_House (.type "object")=some true
 na_House_doors:NoAttr K t.C_House "doors"
 na_House_ways:NoAttr K t.C_House "ways"
 na_House_lamps:NoAttr K t.C_House "lamps"
 mg_Book:mg "Book"=some (.ref t.C_Book)
 cl_Book:Cls K t.C_Book
 tc_Book:PySem.W.findIn K (.ref t.C_Book) "__class__"=some (some (.builtin "object.__class__"))
 tm_Book:PySem.W.mroIn K t.C_Book (.type "object")=some true
 na_Book_doors:NoAttr K t.C_Book "doors"
 na_Book_noted:NoAttr K t.C_Book "noted"
 mg_Learner:mg "Learner"=some (.ref t.C_Learner)
 cl_Learner:Cls K t.C_Learner
 tc_Learner:PySem.W.findIn K (.ref t.C_Learner) "__class__"=some (some (.builtin "object.__class__"))
 tm_Learner:PySem.W.mroIn K t.C_Learner (.type "object")=some true
 na_Learner_book:NoAttr K t.C_Learner "book"
 na_Learner_doors:NoAttr K t.C_Learner "doors"
 na_Learner_heads:NoAttr K t.C_Learner "heads"
 na_Learner_tails:NoAttr K t.C_Learner "tails"
 na_Learner_lines:NoAttr K t.C_Learner "lines"
 na_Learner_rows:NoAttr K t.C_Learner "rows"
 na_Learner_filled:NoAttr K t.C_Learner "filled"
 mg_HouseError:mg "HouseError"=some (.ref t.C_HouseError)
 ex_HouseError:ExcK K "HouseError" t.C_HouseError
 cl_HouseError:PySem.W.isClsIn K t.C_HouseError=true
 ty_HouseError:PySem.W.typeIn K (.ref t.C_HouseError)=some (.type "type")
 mv_HouseError:PySem.W.mroIn K t.C_HouseError (.type "ValueError")=some true
 ms_HouseError:PySem.W.mroIn K t.C_HouseError (.ref t.C_HouseError)=some true
 mg_BadHouse:mg "BadHouse"=some (.ref t.C_BadHouse)
 ex_BadHouse:ExcK K "BadHouse" t.C_BadHouse
 cl_BadHouse:PySem.W.isClsIn K t.C_BadHouse=true
 ty_BadHouse:PySem.W.typeIn K (.ref t.C_BadHouse)=some (.type "type")
 mv_BadHouse:PySem.W.mroIn K t.C_BadHouse (.type "ValueError")=some true
 ms_BadHouse:PySem.W.mroIn K t.C_BadHouse (.ref t.C_BadHouse)=some true
 mg_BadWord:mg "BadWord"=some (.ref t.C_BadWord)
 ex_BadWord:ExcK K "BadWord" t.C_BadWord
 cl_BadWord:PySem.W.isClsIn K t.C_BadWord=true
 ty_BadWord:PySem.W.typeIn K (.ref t.C_BadWord)=some (.type "type")
 mv_BadWord:PySem.W.mroIn K t.C_BadWord (.type "ValueError")=some true
 ms_BadWord:PySem.W.mroIn K t.C_BadWord (.ref t.C_BadWord)=some true
 mg_NoRoom:mg "NoRoom"=some (.ref t.C_NoRoom)
 ex_NoRoom:ExcK K "NoRoom" t.C_NoRoom
 cl_NoRoom:PySem.W.isClsIn K t.C_NoRoom=true
 ty_NoRoom:PySem.W.typeIn K (.ref t.C_NoRoom)=some (.type "type")
 mv_NoRoom:PySem.W.mroIn K t.C_NoRoom (.type "ValueError")=some true
 ms_NoRoom:PySem.W.mroIn K t.C_NoRoom (.ref t.C_NoRoom)=some true
 mg_OtherDoors:mg "OtherDoors"=some (.ref t.C_OtherDoors)
 ex_OtherDoors:ExcK K "OtherDoors" t.C_OtherDoors
 cl_OtherDoors:PySem.W.isClsIn K t.C_OtherDoors=true
 ty_OtherDoors:PySem.W.typeIn K (.ref t.C_OtherDoors)=some (.type "type")
 mv_OtherDoors:PySem.W.mroIn K t.C_OtherDoors (.type "ValueError")=some true
 ms_OtherDoors:PySem.W.mroIn K t.C_OtherDoors (.ref t.C_OtherDoors)=some true
 mg_TooGreat:mg "TooGreat"=some (.ref t.C_TooGreat)
 ex_TooGreat:ExcK K "TooGreat" t.C_TooGreat
 cl_TooGreat:PySem.W.isClsIn K t.C_TooGreat=true
 ty_TooGreat:PySem.W.typeIn K (.ref t.C_TooGreat)=some (.type "type")
 mv_TooGreat:PySem.W.mroIn K t.C_TooGreat (.type "ValueError")=some true
 ms_TooGreat:PySem.W.mroIn K t.C_TooGreat (.ref t.C_TooGreat)=some true
 mg_NoSuch:mg "NoSuch"=some (.ref t.C_NoSuch)
 ex_NoSuch:ExcK K "NoSuch" t.C_NoSuch
 cl_NoSuch:PySem.W.isClsIn K t.C_NoSuch=true
 ty_NoSuch:PySem.W.typeIn K (.ref t.C_NoSuch)=some (.type "type")
 mv_NoSuch:PySem.W.mroIn K t.C_NoSuch (.type "ValueError")=some true
 ms_NoSuch:PySem.W.mroIn K t.C_NoSuch (.ref t.C_NoSuch)=some true
 mg_SaidOtherwise:mg "SaidOtherwise"=some (.ref t.C_SaidOtherwise)
 ex_SaidOtherwise:ExcK K "SaidOtherwise" t.C_SaidOtherwise
 cl_SaidOtherwise:PySem.W.isClsIn K t.C_SaidOtherwise=true
 ty_SaidOtherwise:PySem.W.typeIn K (.ref t.C_SaidOtherwise)=some (.type "type")
 mv_SaidOtherwise:PySem.W.mroIn K t.C_SaidOtherwise (.type "ValueError")=some true
 ms_SaidOtherwise:PySem.W.mroIn K t.C_SaidOtherwise (.ref t.C_SaidOtherwise)=some true
 mg_NotAsked:mg "NotAsked"=some (.ref t.C_NotAsked)
 ex_NotAsked:ExcK K "NotAsked" t.C_NotAsked
 cl_NotAsked:PySem.W.isClsIn K t.C_NotAsked=true
 ty_NotAsked:PySem.W.typeIn K (.ref t.C_NotAsked)=some (.type "type")
 mv_NotAsked:PySem.W.mroIn K t.C_NotAsked (.type "ValueError")=some true
 ms_NotAsked:PySem.W.mroIn K t.C_NotAsked (.ref t.C_NotAsked)=some true
 mg_NotYet:mg "NotYet"=some (.ref t.C_NotYet)
 ex_NotYet:ExcK K "NotYet" t.C_NotYet
 cl_NotYet:PySem.W.isClsIn K t.C_NotYet=true
 ty_NotYet:PySem.W.typeIn K (.ref t.C_NotYet)=some (.type "type")
 mv_NotYet:PySem.W.mroIn K t.C_NotYet (.type "ValueError")=some true
 ms_NotYet:PySem.W.mroIn K t.C_NotYet (.ref t.C_NotYet)=some true
 mg_NotWrong:mg "NotWrong"=some (.ref t.C_NotWrong)
 ex_NotWrong:ExcK K "NotWrong" t.C_NotWrong
 cl_NotWrong:PySem.W.isClsIn K t.C_NotWrong=true
 ty_NotWrong:PySem.W.typeIn K (.ref t.C_NotWrong)=some (.type "type")
 mv_NotWrong:PySem.W.mroIn K t.C_NotWrong (.type "ValueError")=some true
 ms_NotWrong:PySem.W.mroIn K t.C_NotWrong (.ref t.C_NotWrong)=some true
 mg_BadText:mg "BadText"=some (.ref t.C_BadText)
 ex_BadText:ExcK K "BadText" t.C_BadText
 cl_BadText:PySem.W.isClsIn K t.C_BadText=true
 ty_BadText:PySem.W.typeIn K (.ref t.C_BadText)=some (.type "type")
 mv_BadText:PySem.W.mroIn K t.C_BadText (.type "ValueError")=some true
 ms_BadText:PySem.W.mroIn K t.C_BadText (.ref t.C_BadText)=some true
 mb_HouseError:PySem.W.mroIn K t.C_HouseError (.type "BaseException")=some true
 mb_BadHouse:PySem.W.mroIn K t.C_BadHouse (.type "BaseException")=some true
 mb_BadWord:PySem.W.mroIn K t.C_BadWord (.type "BaseException")=some true
 mb_NoRoom:PySem.W.mroIn K t.C_NoRoom (.type "BaseException")=some true
 mb_OtherDoors:PySem.W.mroIn K t.C_OtherDoors (.type "BaseException")=some true
 mb_TooGreat:PySem.W.mroIn K t.C_TooGreat (.type "BaseException")=some true
 mb_NoSuch:PySem.W.mroIn K t.C_NoSuch (.type "BaseException")=some true
 mb_SaidOtherwise:PySem.W.mroIn K t.C_SaidOtherwise (.type "BaseException")=some true
 mb_NotAsked:PySem.W.mroIn K t.C_NotAsked (.type "BaseException")=some true
 mb_NotYet:PySem.W.mroIn K t.C_NotYet (.type "BaseException")=some true
 mb_NotWrong:PySem.W.mroIn K t.C_NotWrong (.type "BaseException")=some true
 mb_BadText:PySem.W.mroIn K t.C_BadText (.type "BaseException")=some true
 mr_BadHouse_HouseError:PySem.W.mroIn K t.C_BadHouse (.ref t.C_HouseError)=some true
 mr_BadHouse_BadWord:PySem.W.mroIn K t.C_BadHouse (.ref t.C_BadWord)=some false
 mr_BadHouse_NoRoom:PySem.W.mroIn K t.C_BadHouse (.ref t.C_NoRoom)=some false
 mr_BadHouse_OtherDoors:PySem.W.mroIn K t.C_BadHouse (.ref t.C_OtherDoors)=some false
 mr_BadHouse_TooGreat:PySem.W.mroIn K t.C_BadHouse (.ref t.C_TooGreat)=some false
 mr_BadHouse_NoSuch:PySem.W.mroIn K t.C_BadHouse (.ref t.C_NoSuch)=some false
 mr_BadHouse_SaidOtherwise:PySem.W.mroIn K t.C_BadHouse (.ref t.C_SaidOtherwise)=some false
 mr_BadHouse_NotAsked:PySem.W.mroIn K t.C_BadHouse (.ref t.C_NotAsked)=some false
 mr_BadHouse_NotYet:PySem.W.mroIn K t.C_BadHouse (.ref t.C_NotYet)=some false
 mr_BadHouse_NotWrong:PySem.W.mroIn K t.C_BadHouse (.ref t.C_NotWrong)=some false
 mr_BadHouse_BadText:PySem.W.mroIn K t.C_BadHouse (.ref t.C_BadText)=some false
 mr_BadWord_HouseError:PySem.W.mroIn K t.C_BadWord (.ref t.C_HouseError)=some true
 mr_BadWord_BadHouse:PySem.W.mroIn K t.C_BadWord (.ref t.C_BadHouse)=some false
 mr_BadWord_NoRoom:PySem.W.mroIn K t.C_BadWord (.ref t.C_NoRoom)=some false
 mr_BadWord_OtherDoors:PySem.W.mroIn K t.C_BadWord (.ref t.C_OtherDoors)=some false
 mr_BadWord_TooGreat:PySem.W.mroIn K t.C_BadWord (.ref t.C_TooGreat)=some false
 mr_BadWord_NoSuch:PySem.W.mroIn K t.C_BadWord (.ref t.C_NoSuch)=some false
 mr_BadWord_SaidOtherwise:PySem.W.mroIn K t.C_BadWord (.ref t.C_SaidOtherwise)=some false
 mr_BadWord_NotAsked:PySem.W.mroIn K t.C_BadWord (.ref t.C_NotAsked)=some false
 mr_BadWord_NotYet:PySem.W.mroIn K t.C_BadWord (.ref t.C_NotYet)=some false
 mr_BadWord_NotWrong:PySem.W.mroIn K t.C_BadWord (.ref t.C_NotWrong)=some false
 mr_BadWord_BadText:PySem.W.mroIn K t.C_BadWord (.ref t.C_BadText)=some false
 mr_NoRoom_HouseError:PySem.W.mroIn K t.C_NoRoom (.ref t.C_HouseError)=some true
 mr_NoRoom_BadHouse:PySem.W.mroIn K t.C_NoRoom (.ref t.C_BadHouse)=some false
 mr_NoRoom_BadWord:PySem.W.mroIn K t.C_NoRoom (.ref t.C_BadWord)=some false
 mr_NoRoom_OtherDoors:PySem.W.mroIn K t.C_NoRoom (.ref t.C_OtherDoors)=some false
 mr_NoRoom_TooGreat:PySem.W.mroIn K t.C_NoRoom (.ref t.C_TooGreat)=some false
 mr_NoRoom_NoSuch:PySem.W.mroIn K t.C_NoRoom (.ref t.C_NoSuch)=some false
 mr_NoRoom_SaidOtherwise:PySem.W.mroIn K t.C_NoRoom (.ref t.C_SaidOtherwise)=some false
 mr_NoRoom_NotAsked:PySem.W.mroIn K t.C_NoRoom (.ref t.C_NotAsked)=some false
 mr_NoRoom_NotYet:PySem.W.mroIn K t.C_NoRoom (.ref t.C_NotYet)=some false
 mr_NoRoom_NotWrong:PySem.W.mroIn K t.C_NoRoom (.ref t.C_NotWrong)=some false
 mr_NoRoom_BadText:PySem.W.mroIn K t.C_NoRoom (.ref t.C_BadText)=some false
 mr_OtherDoors_HouseError:PySem.W.mroIn K t.C_OtherDoors (.ref t.C_HouseError)=some true
 mr_OtherDoors_BadHouse:PySem.W.mroIn K t.C_OtherDoors (.ref t.C_BadHouse)=some false
 mr_OtherDoors_BadWord:PySem.W.mroIn K t.C_OtherDoors (.ref t.C_BadWord)=some false
 mr_OtherDoors_NoRoom:PySem.W.mroIn K t.C_OtherDoors (.ref t.C_NoRoom)=some false
 mr_OtherDoors_TooGreat:PySem.W.mroIn K t.C_OtherDoors (.ref t.C_TooGreat)=some false
 mr_OtherDoors_NoSuch:PySem.W.mroIn K t.C_OtherDoors (.ref t.C_NoSuch)=some false
 mr_OtherDoors_SaidOtherwise:PySem.W.mroIn K t.C_OtherDoors (.ref t.C_SaidOtherwise)=some false
 mr_OtherDoors_NotAsked:PySem.W.mroIn K t.C_OtherDoors (.ref t.C_NotAsked)=some false
 mr_OtherDoors_NotYet:PySem.W.mroIn K t.C_OtherDoors (.ref t.C_NotYet)=some false
 mr_OtherDoors_NotWrong:PySem.W.mroIn K t.C_OtherDoors (.ref t.C_NotWrong)=some false
 mr_OtherDoors_BadText:PySem.W.mroIn K t.C_OtherDoors (.ref t.C_BadText)=some false
 mr_TooGreat_HouseError:PySem.W.mroIn K t.C_TooGreat (.ref t.C_HouseError)=some true
 mr_TooGreat_BadHouse:PySem.W.mroIn K t.C_TooGreat (.ref t.C_BadHouse)=some false
 mr_TooGreat_BadWord:PySem.W.mroIn K t.C_TooGreat (.ref t.C_BadWord)=some false
 mr_TooGreat_NoRoom:PySem.W.mroIn K t.C_TooGreat (.ref t.C_NoRoom)=some false
 mr_TooGreat_OtherDoors:PySem.W.mroIn K t.C_TooGreat (.ref t.C_OtherDoors)=some false
 mr_TooGreat_NoSuch:PySem.W.mroIn K t.C_TooGreat (.ref t.C_NoSuch)=some false
 mr_TooGreat_SaidOtherwise:PySem.W.mroIn K t.C_TooGreat (.ref t.C_SaidOtherwise)=some false
 mr_TooGreat_NotAsked:PySem.W.mroIn K t.C_TooGreat (.ref t.C_NotAsked)=some false
 mr_TooGreat_NotYet:PySem.W.mroIn K t.C_TooGreat (.ref t.C_NotYet)=some false
 mr_TooGreat_NotWrong:PySem.W.mroIn K t.C_TooGreat (.ref t.C_NotWrong)=some false
 mr_TooGreat_BadText:PySem.W.mroIn K t.C_TooGreat (.ref t.C_BadText)=some false
 mr_NoSuch_HouseError:PySem.W.mroIn K t.C_NoSuch (.ref t.C_HouseError)=some true
 mr_NoSuch_BadHouse:PySem.W.mroIn K t.C_NoSuch (.ref t.C_BadHouse)=some false
 mr_NoSuch_BadWord:PySem.W.mroIn K t.C_NoSuch (.ref t.C_BadWord)=some false
 mr_NoSuch_NoRoom:PySem.W.mroIn K t.C_NoSuch (.ref t.C_NoRoom)=some false
 mr_NoSuch_OtherDoors:PySem.W.mroIn K t.C_NoSuch (.ref t.C_OtherDoors)=some false
 mr_NoSuch_TooGreat:PySem.W.mroIn K t.C_NoSuch (.ref t.C_TooGreat)=some false
 mr_NoSuch_SaidOtherwise:PySem.W.mroIn K t.C_NoSuch (.ref t.C_SaidOtherwise)=some false
 mr_NoSuch_NotAsked:PySem.W.mroIn K t.C_NoSuch (.ref t.C_NotAsked)=some false
 mr_NoSuch_NotYet:PySem.W.mroIn K t.C_NoSuch (.ref t.C_NotYet)=some false
 mr_NoSuch_NotWrong:PySem.W.mroIn K t.C_NoSuch (.ref t.C_NotWrong)=some false
 mr_NoSuch_BadText:PySem.W.mroIn K t.C_NoSuch (.ref t.C_BadText)=some false
 mr_SaidOtherwise_HouseError:PySem.W.mroIn K t.C_SaidOtherwise (.ref t.C_HouseError)=some true
 mr_SaidOtherwise_BadHouse:PySem.W.mroIn K t.C_SaidOtherwise (.ref t.C_BadHouse)=some false
 mr_SaidOtherwise_BadWord:PySem.W.mroIn K t.C_SaidOtherwise (.ref t.C_BadWord)=some false
 mr_SaidOtherwise_NoRoom:PySem.W.mroIn K t.C_SaidOtherwise (.ref t.C_NoRoom)=some false
 mr_SaidOtherwise_OtherDoors:PySem.W.mroIn K t.C_SaidOtherwise (.ref t.C_OtherDoors)=some false
 mr_SaidOtherwise_TooGreat:PySem.W.mroIn K t.C_SaidOtherwise (.ref t.C_TooGreat)=some false
 mr_SaidOtherwise_NoSuch:PySem.W.mroIn K t.C_SaidOtherwise (.ref t.C_NoSuch)=some false
 mr_SaidOtherwise_NotAsked:PySem.W.mroIn K t.C_SaidOtherwise (.ref t.C_NotAsked)=some false
 mr_SaidOtherwise_NotYet:PySem.W.mroIn K t.C_SaidOtherwise (.ref t.C_NotYet)=some false
 mr_SaidOtherwise_NotWrong:PySem.W.mroIn K t.C_SaidOtherwise (.ref t.C_NotWrong)=some false
 mr_SaidOtherwise_BadText:PySem.W.mroIn K t.C_SaidOtherwise (.ref t.C_BadText)=some false
 mr_NotAsked_HouseError:PySem.W.mroIn K t.C_NotAsked (.ref t.C_HouseError)=some true
 mr_NotAsked_BadHouse:PySem.W.mroIn K t.C_NotAsked (.ref t.C_BadHouse)=some false
 mr_NotAsked_BadWord:PySem.W.mroIn K t.C_NotAsked (.ref t.C_BadWord)=some false
 mr_NotAsked_NoRoom:PySem.W.mroIn K t.C_NotAsked (.ref t.C_NoRoom)=some false
 mr_NotAsked_OtherDoors:PySem.W.mroIn K t.C_NotAsked (.ref t.C_OtherDoors)=some false
 mr_NotAsked_TooGreat:PySem.W.mroIn K t.C_NotAsked (.ref t.C_TooGreat)=some false
 mr_NotAsked_NoSuch:PySem.W.mroIn K t.C_NotAsked (.ref t.C_NoSuch)=some false
 mr_NotAsked_SaidOtherwise:PySem.W.mroIn K t.C_NotAsked (.ref t.C_SaidOtherwise)=some false
 mr_NotAsked_NotYet:PySem.W.mroIn K t.C_NotAsked (.ref t.C_NotYet)=some false
 mr_NotAsked_NotWrong:PySem.W.mroIn K t.C_NotAsked (.ref t.C_NotWrong)=some false
 mr_NotAsked_BadText:PySem.W.mroIn K t.C_NotAsked (.ref t.C_BadText)=some false
 mr_NotYet_HouseError:PySem.W.mroIn K t.C_NotYet (.ref t.C_HouseError)=some true
 mr_NotYet_BadHouse:PySem.W.mroIn K t.C_NotYet (.ref t.C_BadHouse)=some false
 mr_NotYet_BadWord:PySem.W.mroIn K t.C_NotYet (.ref t.C_BadWord)=some false
 mr_NotYet_NoRoom:PySem.W.mroIn K t.C_NotYet (.ref t.C_NoRoom)=some false
 mr_NotYet_OtherDoors:PySem.W.mroIn K t.C_NotYet (.ref t.C_OtherDoors)=some false
 mr_NotYet_TooGreat:PySem.W.mroIn K t.C_NotYet (.ref t.C_TooGreat)=some false
 mr_NotYet_NoSuch:PySem.W.mroIn K t.C_NotYet (.ref t.C_NoSuch)=some false
 mr_NotYet_SaidOtherwise:PySem.W.mroIn K t.C_NotYet (.ref t.C_SaidOtherwise)=some false
 mr_NotYet_NotAsked:PySem.W.mroIn K t.C_NotYet (.ref t.C_NotAsked)=some false
 mr_NotYet_NotWrong:PySem.W.mroIn K t.C_NotYet (.ref t.C_NotWrong)=some false
 mr_NotYet_BadText:PySem.W.mroIn K t.C_NotYet (.ref t.C_BadText)=some false
 mr_NotWrong_HouseError:PySem.W.mroIn K t.C_NotWrong (.ref t.C_HouseError)=some true
 mr_NotWrong_BadHouse:PySem.W.mroIn K t.C_NotWrong (.ref t.C_BadHouse)=some false
 mr_NotWrong_BadWord:PySem.W.mroIn K t.C_NotWrong (.ref t.C_BadWord)=some false
 mr_NotWrong_NoRoom:PySem.W.mroIn K t.C_NotWrong (.ref t.C_NoRoom)=some false
 mr_NotWrong_OtherDoors:PySem.W.mroIn K t.C_NotWrong (.ref t.C_OtherDoors)=some false
 mr_NotWrong_TooGreat:PySem.W.mroIn K t.C_NotWrong (.ref t.C_TooGreat)=some false
 mr_NotWrong_NoSuch:PySem.W.mroIn K t.C_NotWrong (.ref t.C_NoSuch)=some false
 mr_NotWrong_SaidOtherwise:PySem.W.mroIn K t.C_NotWrong (.ref t.C_SaidOtherwise)=some false
 mr_NotWrong_NotAsked:PySem.W.mroIn K t.C_NotWrong (.ref t.C_NotAsked)=some false
 mr_NotWrong_NotYet:PySem.W.mroIn K t.C_NotWrong (.ref t.C_NotYet)=some false
 mr_NotWrong_BadText:PySem.W.mroIn K t.C_NotWrong (.ref t.C_BadText)=some false
 mr_BadText_HouseError:PySem.W.mroIn K t.C_BadText (.ref t.C_HouseError)=some true
 mr_BadText_BadHouse:PySem.W.mroIn K t.C_BadText (.ref t.C_BadHouse)=some false
 mr_BadText_BadWord:PySem.W.mroIn K t.C_BadText (.ref t.C_BadWord)=some false
 mr_BadText_NoRoom:PySem.W.mroIn K t.C_BadText (.ref t.C_NoRoom)=some false
 mr_BadText_OtherDoors:PySem.W.mroIn K t.C_BadText (.ref t.C_OtherDoors)=some false
 mr_BadText_TooGreat:PySem.W.mroIn K t.C_BadText (.ref t.C_TooGreat)=some false
 mr_BadText_NoSuch:PySem.W.mroIn K t.C_BadText (.ref t.C_NoSuch)=some false
 mr_BadText_SaidOtherwise:PySem.W.mroIn K t.C_BadText (.ref t.C_SaidOtherwise)=some false
 mr_BadText_NotAsked:PySem.W.mroIn K t.C_BadText (.ref t.C_NotAsked)=some false
 mr_BadText_NotYet:PySem.W.mroIn K t.C_BadText (.ref t.C_NotYet)=some false
 mr_BadText_NotWrong:PySem.W.mroIn K t.C_BadText (.ref t.C_NotWrong)=some false
 tg:PySem.W.specialIn K (.builtin "object.__class__") "__get__"=some (some (.builtin "getset_descriptor.__get__"))
 tt:PySem.W.takesIn K (.builtin "object.__class__")=some true
 mg_check_doors:mg "check_doors"=some (.ref t.f_check_doors)
 F_check_doors:Fun K "check_doors" "check_doors" s_check_doors t.f_check_doors t.fd_check_doors
 mg_check_house:mg "check_house"=some (.ref t.f_check_house)
 F_check_house:Fun K "check_house" "check_house" s_check_house t.f_check_house t.fd_check_house
 mg_check_word:mg "check_word"=some (.ref t.f_check_word)
 F_check_word:Fun K "check_word" "check_word" s_check_word t.f_check_word t.fd_check_word
 F_House_init:Fun K "__init__" "House.__init__" s_House_init t.f_House_init t.fd_House_init
 mk_House:Mk K t.C_House t.f_House_init
 F_House_rooms:Fun K "rooms" "House.rooms" s_House_rooms t.f_House_rooms t.fd_House_rooms
 me_House_rooms:Meth K t.C_House "rooms" t.f_House_rooms
 F_House_trail:Fun K "trail" "House.trail" s_House_trail t.f_House_trail t.fd_House_trail
 me_House_trail:Meth K t.C_House "trail" t.f_House_trail
 F_House_room_of:Fun K "room_of" "House.room_of" s_House_room_of t.f_House_room_of t.fd_House_room_of
 me_House_room_of:Meth K t.C_House "room_of" t.f_House_room_of
 F_House_says:Fun K "says" "House.says" s_House_says t.f_House_says t.fd_House_says
 me_House_says:Meth K t.C_House "says" t.f_House_says
 F_Book_init:Fun K "__init__" "Book.__init__" s_Book_init t.f_Book_init t.fd_Book_init
 mk_Book:Mk K t.C_Book t.f_Book_init
 F_Book_said:Fun K "said" "Book.said" s_Book_said t.f_Book_said t.fd_Book_said
 me_Book_said:Meth K t.C_Book "said" t.f_Book_said
 F_Book_check_note:Fun K "check_note" "Book.check_note" s_Book_check_note t.f_Book_check_note t.fd_Book_check_note
 me_Book_check_note:Meth K t.C_Book "check_note" t.f_Book_check_note
 F_Book_note:Fun K "note" "Book.note" s_Book_note t.f_Book_note t.fd_Book_note
 me_Book_note:Meth K t.C_Book "note" t.f_Book_note
 mg_leader:mg "leader"=some (.ref t.f_leader)
 F_leader:Fun K "leader" "leader" s_leader t.f_leader t.fd_leader
 mg_newly_linked:mg "newly_linked"=some (.ref t.f_newly_linked)
 F_newly_linked:Fun K "newly_linked" "newly_linked" s_newly_linked t.f_newly_linked t.fd_newly_linked
 mg_pairs_behind:mg "pairs_behind"=some (.ref t.f_pairs_behind)
 F_pairs_behind:Fun K "pairs_behind" "pairs_behind" s_pairs_behind t.f_pairs_behind t.fd_pairs_behind
 mg_parting_word:mg "parting_word"=some (.ref t.f_parting_word)
 F_parting_word:Fun K "parting_word" "parting_word" s_parting_word t.f_parting_word t.fd_parting_word
 mg_check_room:mg "check_room"=some (.ref t.f_check_room)
 F_check_room:Fun K "check_room" "check_room" s_check_room t.f_check_room t.fd_check_room
 mg_apart:mg "apart"=some (.ref t.f_apart)
 F_apart:Fun K "apart" "apart" s_apart t.f_apart t.fd_apart
 mg_check_same_doors:mg "check_same_doors"=some (.ref t.f_check_same_doors)
 F_check_same_doors:Fun K "check_same_doors" "check_same_doors" s_check_same_doors t.f_check_same_doors t.fd_check_same_doors
 mg_difference:mg "difference"=some (.ref t.f_difference)
 F_difference:Fun K "difference" "difference" s_difference t.f_difference t.fd_difference
 mg_pairs_ahead:mg "pairs_ahead"=some (.ref t.f_pairs_ahead)
 F_pairs_ahead:Fun K "pairs_ahead" "pairs_ahead" s_pairs_ahead t.f_pairs_ahead t.fd_pairs_ahead
 mg_numbers_of_pairs:mg "numbers_of_pairs"=some (.ref t.f_numbers_of_pairs)
 F_numbers_of_pairs:Fun K "numbers_of_pairs" "numbers_of_pairs" s_numbers_of_pairs t.f_numbers_of_pairs t.fd_numbers_of_pairs
 mg_truth_of:mg "truth_of"=some (.ref t.f_truth_of)
 F_truth_of:Fun K "truth_of" "truth_of" s_truth_of t.f_truth_of t.fd_truth_of
 mg_mixed:mg "mixed"=some (.ref t.f_mixed)
 F_mixed:Fun K "mixed" "mixed" s_mixed t.f_mixed t.fd_mixed
 mg_one_door_more:mg "one_door_more"=some (.ref t.f_one_door_more)
 F_one_door_more:Fun K "one_door_more" "one_door_more" s_one_door_more t.f_one_door_more t.fd_one_door_more
 mg_counts_to:mg "counts_to"=some (.ref t.f_counts_to)
 F_counts_to:Fun K "counts_to" "counts_to" s_counts_to t.f_counts_to t.fd_counts_to
 mg_word_at:mg "word_at"=some (.ref t.f_word_at)
 F_word_at:Fun K "word_at" "word_at" s_word_at t.f_word_at t.fd_word_at
 F_Learner_add_head:Fun K "add_head" "Learner.add_head" s_Learner_add_head t.f_Learner_add_head t.fd_Learner_add_head
 me_Learner_add_head:Meth K t.C_Learner "add_head" t.f_Learner_add_head
 F_Learner_init:Fun K "__init__" "Learner.__init__" s_Learner_init t.f_Learner_init t.fd_Learner_init
 mk_Learner:Mk K t.C_Learner t.f_Learner_init
 F_Learner_gap:Fun K "gap" "Learner.gap" s_Learner_gap t.f_Learner_gap t.fd_Learner_gap
 me_Learner_gap:Meth K t.C_Learner "gap" t.f_Learner_gap
 F_Learner_question:Fun K "question" "Learner.question" s_Learner_question t.f_Learner_question t.fd_Learner_question
 me_Learner_question:Meth K t.C_Learner "question" t.f_Learner_question
 F_Learner_heads_by_row:Fun K "heads_by_row" "Learner.heads_by_row" s_Learner_heads_by_row t.f_Learner_heads_by_row t.fd_Learner_heads_by_row
 me_Learner_heads_by_row:Meth K t.C_Learner "heads_by_row" t.f_Learner_heads_by_row
 F_Learner_unlike_edge:Fun K "unlike_edge" "Learner.unlike_edge" s_Learner_unlike_edge t.f_Learner_unlike_edge t.fd_Learner_unlike_edge
 me_Learner_unlike_edge:Meth K t.C_Learner "unlike_edge" t.f_Learner_unlike_edge
 F_Learner_add_unlike_edges:Fun K "add_unlike_edges" "Learner.add_unlike_edges" s_Learner_add_unlike_edges t.f_Learner_add_unlike_edges t.fd_Learner_add_unlike_edges
 me_Learner_add_unlike_edges:Meth K t.C_Learner "add_unlike_edges" t.f_Learner_add_unlike_edges
 F_Learner_answer:Fun K "answer" "Learner.answer" s_Learner_answer t.f_Learner_answer t.fd_Learner_answer
 me_Learner_answer:Meth K t.C_Learner "answer" t.f_Learner_answer
 F_Learner_guess:Fun K "guess" "Learner.guess" s_Learner_guess t.f_Learner_guess t.fd_Learner_guess
 me_Learner_guess:Meth K t.C_Learner "guess" t.f_Learner_guess
 F_Learner_add_tails:Fun K "add_tails" "Learner.add_tails" s_Learner_add_tails t.f_Learner_add_tails t.fd_Learner_add_tails
 me_Learner_add_tails:Meth K t.C_Learner "add_tails" t.f_Learner_add_tails
 F_Learner_wrong:Fun K "wrong" "Learner.wrong" s_Learner_wrong t.f_Learner_wrong t.fd_Learner_wrong
 me_Learner_wrong:Meth K t.C_Learner "wrong" t.f_Learner_wrong
 mg_written_numbers:mg "written_numbers"=some (.ref t.f_written_numbers)
 F_written_numbers:Fun K "written_numbers" "written_numbers" s_written_numbers t.f_written_numbers t.fd_written_numbers
 mg_number_of:mg "number_of"=some (.ref t.f_number_of)
 F_number_of:Fun K "number_of" "number_of" s_number_of t.f_number_of t.fd_number_of
 mg_lamp_of:mg "lamp_of"=some (.ref t.f_lamp_of)
 F_lamp_of:Fun K "lamp_of" "lamp_of" s_lamp_of t.f_lamp_of t.fd_lamp_of
 mg_doors_of:mg "doors_of"=some (.ref t.f_doors_of)
 F_doors_of:Fun K "doors_of" "doors_of" s_doors_of t.f_doors_of t.fd_doors_of
 mg_read:mg "read"=some (.ref t.f_read)
 F_read:Fun K "read" "read" s_read t.f_read t.fd_read
 mg_l_cell_at:mg "_law_cell_at"=some (.ref t.f_l_cell_at)
 F_l_cell_at:Fun K "_law_cell_at" "_law_cell_at" s_l_cell_at t.f_l_cell_at t.fd_l_cell_at
 mg_l_ring:mg "_law_ring"=some (.ref t.f_l_ring)
 F_l_ring:Fun K "_law_ring" "_law_ring" s_l_ring t.f_l_ring t.fd_l_ring
 mg_l_taught:mg "_law_taught"=some (.ref t.f_l_taught)
 F_l_taught:Fun K "_law_taught" "_law_taught" s_l_taught t.f_l_taught t.fd_l_taught
 mg_l_do:mg "_law_do"=some (.ref t.f_l_do)
 F_l_do:Fun K "_law_do" "_law_do" s_l_do t.f_l_do t.fd_l_do
 mg_l_marks:mg "_law_marks"=some (.ref t.f_l_marks)
 F_l_marks:Fun K "_law_marks" "_law_marks" s_l_marks t.f_l_marks t.fd_l_marks
 mg_law:mg "law"=some (.ref t.f_law)
 F_law:Fun K "law" "law" s_law t.f_law t.fd_law
section
variable {P:Program} {w:World} {K:PySem.W.Frag} {mg:Str→Option Value} {base:Heap} {t:Adr}
theorem sc_check_doors:FnScope ["doors"] ["doors"] (defScope s_check_doors):=⟨rfl,rfl,rfl,by decide +kernel,rfl,by decide +kernel,by decide +kernel⟩
theorem b_check_doors (T:Txt K mg t):Binds K t.fd_check_doors ["doors"] []:=T.F_check_doors.binds fun _ _ _ _ _ _ us hl=>by obtain ⟨_,rfl⟩:=len_1 hl;rfl
def sp_check_doors (C:Addr):Sp:=fun vs H Q E=>∃ d:Int,vs=[.int d]∧-1000000≤d∧d≤1000000∧((1≤d∧d≤6)→Q .non H)∧(¬ (1≤d∧d≤6)→E (.ref C) none H)
theorem ok_check_doors (T:Txt K mg t):FnOk P w K mg base (CXr P w) 1 t.f_check_doors t.fd_check_doors ["doors"] (sp_check_doors t.C_BadHouse):=by
 refine T.F_check_doors.okX sc_check_doors (fun vs H Q E h=>?_) (fun cdv A outer s H vs Q E hr h=>?_)
 ·obtain ⟨d,rfl,_⟩:=h
  rfl
 ·obtain ⟨d,rfl,s0,s1,q1,q2⟩:=h
  refine ⟨_,pss_one (ps_if (pt_not (pt_chain op_le op_le (pe_int) (pv 0) (pe_glob (v:=.int 6) rfl T.mg_MOST_DOORS.choose_spec ⟨_,rfl⟩)))
 (pss_one (ps_raise xm_def rfl rfl T.mg_BadHouse T.ex_BadHouse.toExcCls (pa_cons (pe_joined (pj_str (pj_int (pv 0) (pj_nil)))) (pa_nil))))
 (pss_nil)),?_⟩
  walk_at "w";refine r_ite (fun hd1=>?_) (fun hd1=>?_)
  rotate_left
  ·walk_at "w";refine r_iteP rfl ?_
   walk_at "w";refine ⟨d,rfl,small_log s0 s1,?_⟩
   walk_at "w";exact fun x=>⟨show 1≤sizeLine by decide,q2 fun z=>by have:=z.1;simp at hd1;omega⟩
  have hd1:=of_decide_eq_true hd1
  walk_at "w";refine r_ite (fun hd6=>?_) (fun hd6=>?_)
  ·walk_at "w";refine ⟨d,rfl,small_log s0 s1,?_⟩
   walk_at "w";exact fun x=>⟨show 1≤sizeLine by decide,q2 fun z=>by have:=z.2;simp at hd6;omega⟩
  have hd6:d≤6:=by simpa using hd6
  walk_at "w";exact q1 ⟨hd1,hd6⟩
theorem sc_check_house:FnScope ["doors","ways","lamps","rooms","room","row","way"] ["doors","ways","lamps"] (defScope s_check_house):=⟨rfl,rfl,rfl,by decide +kernel,rfl,by decide +kernel,by decide +kernel⟩
theorem b_check_house (T:Txt K mg t):Binds K t.fd_check_house ["doors","ways","lamps"] []:=T.F_check_house.binds fun _ _ _ _ _ _ us hl=>by obtain ⟨_,_,_,rfl⟩:=len_3 hl;rfl
structure SmallH (d:Int) (rss:List (List Int)):Prop where
 d0:-1000000≤d
 d1:d≤1000000
 x:∀ row∈rss,∀ x∈row,-1000000≤x∧x≤1000000
 n:rss.length≤500
theorem SmallH.of {d:Int} {rss:List (List Int)} {ls:List Bool} (V:Valid d rss ls):SmallH d rss:=by
 have h1:=V.d1
 have h6:=V.d6
 have h4:=V.r400
 refine ⟨by omega,by omega,fun row hr x hx=>?_,by omega⟩
 have:=(V.row row hr).2 x hx
 omega
def sp_check_house (K:PySem.W.Frag) (C:Addr):Sp:=fun vs H Q E=>∃ (d:Int) (a:Addr) (rs:List Addr) (rss:List (List Int)) (l:Addr) (ls:List Bool),vs=[.int d,.ref a,.ref l]∧Mat H a rs rss∧SqL K H l (ls.map V.bl)∧SmallH d rss ∧
 ∀ H',Same H H'→(Valid d rss ls→Q .non H')∧(¬ Valid d rss ls→E (.ref C) none H')
theorem ok_check_house (T:Txt K mg t):FnOk P w K mg base (CXr P w) 2 t.f_check_house t.fd_check_house ["doors","ways","lamps"] (sp_check_house K t.C_BadHouse):=by
 refine T.F_check_house.okX sc_check_house (fun vs H Q E h=>?_) (fun cdv A outer s H vs Q E hr h=>?_)
 ·obtain ⟨d,a,rs,rss,l,ls,rfl,_⟩:=h
  rfl
 ·obtain ⟨d,a,rs,rss,l,ls,rfl,M,hL,Sm,q⟩:=h
  have he:¬ Valid d rss ls→∀ x:Str,([V.str x]:List V).length≤sizeLine∧E (.ref t.C_BadHouse) none H:=fun nv x=>⟨show 1≤sizeLine by decide,(q H (Same.refl H)).2 nv⟩
  have hlen:(rs.map V.ref).length=rss.length:=by rw [List.length_map,M.len]
  have hlr:((rss.length:Nat):Int).natAbs.log2 < 64:=small_log (by omega) (by have:=Sm.n;omega)
  refine ⟨_,pss_cons (ps_expr (pe_call (ok_check_doors T) (hr.mono (by decide)) rfl T.mg_check_doors T.F_check_doors.kp (b_check_doors T) .nil xp_def.pass (pa_cons (pv 0) (pa_nil))))
 (pss_cons (ps_set (i:=3) sc_check_house.nd rfl (Or.inl rfl) (pe_callB (call_len_seqK K) rfl T.m_len PySem.boot_len (pa_cons (pv 1) (pa_nil))))
 (pss_cons (ps_if (pt_not (pt_chain op_le op_le (pe_int) (pv 3) (pe_glob (v:=.int 400) rfl T.mg_MOST_ROOMS.choose_spec ⟨_,rfl⟩)))
 (pss_one (ps_raise xm_def rfl rfl T.mg_BadHouse T.ex_BadHouse.toExcCls (pa_cons (pe_joined (pj_str (pj_int (pv 3) (pj_nil)))) (pa_nil))))
 (pss_nil))
 (pss_cons (ps_if (pt_cmpR op_ne (pe_callB (call_len_seqK K) rfl T.m_len PySem.boot_len (pa_cons (pv 2) (pa_nil))) (pv 3) (nomark _))
 (pss_one (ps_raise xm_def rfl rfl T.mg_BadHouse T.ex_BadHouse.toExcCls (pa_cons (pe_str) (pa_nil))))
 (pss_nil))
 (pss_one (ps_for xp_def.own rfl (pi_enumK K rfl T.m_enumerate (pa_cons (pv 1) (pa_nil))) (pg_tupK K (n:=2) rfl (pgs_cons (pg_name (i:=4) sc_check_house.nd rfl (Or.inl rfl)) (pgs_cons (pg_name (i:=5) sc_check_house.nd rfl (Or.inl rfl)) (pgs_nil))))
 (pss_cons (ps_if (pt_cmpR op_ne (pe_callB (call_len_seqK K) rfl T.m_len PySem.boot_len (pa_cons (pv 5) (pa_nil))) (pv 0) (nomark _))
 (pss_one (ps_raise xm_def rfl rfl T.mg_BadHouse T.ex_BadHouse.toExcCls (pa_cons (pe_joined (pj_str (pj_int (pv 4) (pj_str (pj_nil))))) (pa_nil))))
 (pss_nil))
 (pss_one (ps_for xp_def.own rfl (pi_listK K (pv 5)) (pg_name (i:=6) sc_check_house.nd rfl (Or.inl rfl))
 (pss_one (ps_if (pt_not (pt_chain op_le op_lt (pe_int) (pv 6) (pv 3)))
 (pss_one (ps_raise xm_def rfl rfl T.mg_BadHouse T.ex_BadHouse.toExcCls (pa_cons (pe_joined (pj_str (pj_int (pv 4) (pj_str (pj_int (pv 6) (pj_str (pj_nil))))))) (pa_nil))))
 (pss_nil))))))))))),?_⟩
  walk_at "w";refine ⟨d,rfl,Sm.d0,Sm.d1,fun hd=>?_,fun hd=>(q H (Same.refl H)).2 fun V=>hd ⟨V.d1,V.d6⟩⟩
  obtain ⟨hd1,hd6⟩:=hd
  walk_at "w";refine ⟨a,_,rfl,.inl (SqL.of M.top),?_⟩
  rw [hlen]
  walk_at "w";refine r_ite (fun hr1=>?_) (fun hr1=>?_)
  rotate_left
  ·walk_at "w";refine r_iteP rfl ?_
   walk_at "w";refine ⟨_,rfl,hlr,?_⟩
   walk_at "w";exact he fun V=>by have:=V.r1;simp at hr1;omega
  have hr1:=of_decide_eq_true hr1
  walk_at "w";refine r_ite (fun hr4=>?_) (fun hr4=>?_)
  ·walk_at "w";refine ⟨_,rfl,hlr,?_⟩
   walk_at "w";exact he fun V=>by have:=V.r400;simp at hr4;omega
  have hr4:(rss.length:Int)≤400:=by simpa using hr4
  walk_at "w";refine ⟨l,_,rfl,.inl hL,?_⟩
  walk_at "w";refine r_ne rfl ?_
  walk_at "w";refine r_ite (fun hll=>?_) (fun hll=>?_)
  ·walk_at "w";exact he (fun V=>by have:=V.ll;simp [this] at hll) _
  have hll:ls.length=rss.length:=by simp at hll;omega
  walk_at "w";refine ⟨a,rfl,⟨_,SqL.of M.top⟩,?_⟩
  refine for_enum (xs:=rs.map V.ref) (fun i σ H'=>Same H H'∧(∀ j,j < i→∀ row,rss[j]?=some row→(row.length:Int)=d∧∀ x∈row,0≤x∧x < rss.length)∧∃ k1 k2 k3,σ=[some (.int d),some (.ref a),some (.ref l),some (.int (rss.length:Int)),k1,k2,k3]) ⟨Same.refl H,fun j hj=>absurd hj (Nat.not_lt_zero j),none,none,none,rfl⟩ (fun i σ H' _ p=>sqL_same p.1 (SqL.of M.top)) (fun i x σ H' tp hx p ht=>?_) (fun σ H' p=>?_)
  ·obtain ⟨hs,done,k1,k2,k3,rfl⟩:=p
   obtain ⟨r,rfl,hr'⟩:=ref_map_inv hx
   obtain ⟨hi,_⟩:=List.getElem?_eq_some_iff.mp hr'
   have hi':i < rss.length:=by rw [← M.len];exact hi
   have hrow:=M.row i r rss[i] hr' (List.getElem?_eq_getElem hi')
   have hs':Same H (upd H' tp (.tup [.int (i:Int),.ref r])):=hs.trans (Same.upd_new ht)
   have he':¬ Valid d rss ls→∀ x:Str,([V.str x]:List V).length≤sizeLine∧E (.ref t.C_BadHouse) none (upd H' tp (.tup [.int (i:Int),.ref r])):=fun nv x=>⟨show 1≤sizeLine by decide,(q _ hs').2 nv⟩
   refine ⟨tp,_,rfl,SqT.of upd_same,rfl,_,_,rfl,?_⟩
   walk_at "w";refine ⟨_,_,rfl,?_⟩
   walk_at "w";refine ⟨rfl,?_⟩
   walk_at "w";refine ⟨r,_,rfl,.inl (SqL.of (hs' _ _ hrow)),?_⟩
   walk_at "w";refine r_ne rfl ?_
   walk_at "w";refine r_ite (fun hw=>?_) (fun hw1=>?_)
   ·walk_at "w";refine ⟨_,rfl,small_log (by omega) (by omega),?_⟩
    walk_at "w";exact he' fun V=>by have:=(V.row rss[i] (List.getElem_mem hi')).1;simp [this] at hw
   have hw1:(rss[i].length:Int)=d:=by simpa using hw1
   walk_at "w";refine ⟨r,rfl,⟨_,SqL.of (hs' _ _ hrow)⟩,?_⟩
   refine for_list (xs:=rss[i].map V.int) (fun j σ H2=>H2=upd H' tp (.tup [.int (i:Int),.ref r])∧(∀ m,m < j→∀ x,rss[i][m]?=some x→0≤x∧x < rss.length)∧∃ k3,σ=[some (.int d),some (.ref a),some (.ref l),some (.int (rss.length:Int)),some (.int (i:Int)),some (.ref r),k3]) ⟨rfl,fun m hm=>absurd hm (Nat.not_lt_zero m),_,rfl⟩ (fun j σ H2 _ p=>by rw [p.1];exact SqL.of (hs' _ _ hrow)) (fun j x σ H2 hx p=>?_) (fun σ H2 p=>?_)
   ·obtain ⟨rfl,doneR,k3,rfl⟩:=p
    have hx0:=int_map_inv hx
    clear hx
    obtain ⟨x,rfl,hx⟩:=hx0
    obtain ⟨sx0,sx1⟩:=Sm.x _ (List.getElem_mem hi') x (List.mem_of_getElem? hx)
    have nv:(¬ (0≤x∧x < rss.length))→¬ Valid d rss ls:=fun nx V=>nx ((V.row rss[i] (List.getElem_mem hi')).2 x (List.mem_of_getElem? hx))
    walk_at "w";refine r_ite (fun x0=>?_) (fun x0=>?_)
    rotate_left
    ·walk_at "w";refine r_iteP rfl ?_
     walk_at "w";refine ⟨_,rfl,small_log (by omega) (by omega),?_⟩
     walk_at "w";refine ⟨_,rfl,small_log (by omega) (by omega),?_⟩
     walk_at "w";exact he' (nv fun z=>by have:=z.1;simp at x0;omega)
    have x0:=of_decide_eq_true x0
    walk_at "w";refine r_ite (fun x1=>?_) (fun x1=>?_)
    ·walk_at "w";refine ⟨_,rfl,small_log (by omega) (by omega),?_⟩
     walk_at "w";refine ⟨_,rfl,small_log (by omega) (by omega),?_⟩
     walk_at "w";exact he' (nv fun z=>by have:=z.2;simp at x1;omega)
    have x1:x < rss.length:=by simpa using x1
    walk_at "w";refine ⟨rfl,fun m hm y hy=>?_,_,rfl⟩
    rcases Nat.lt_or_ge m j with hmj | hmj
    ·exact doneR m hmj y hy
    ·have:m=j:=by omega
     subst this
     rw [hx] at hy;cases hy
     exact ⟨x0,x1⟩
   ·obtain ⟨rfl,doneR,k3,rfl⟩:=p
    refine ⟨hs',fun j hj row hrw=>?_,_,_,_,rfl⟩
    rcases Nat.lt_or_ge j i with hji | hji
    ·exact done j hji row hrw
    ·have:j=i:=by omega
     subst this
     rw [List.getElem?_eq_getElem hi'] at hrw;cases hrw
     refine ⟨hw1,fun x hx=>?_⟩
     obtain ⟨m,hm⟩:=List.getElem?_of_mem hx
     refine doneR m ?_ x hm
     obtain ⟨hm1,_⟩:=List.getElem?_eq_some_iff.mp hm
     rw [List.length_map];exact hm1
  ·obtain ⟨hs,done,k1,k2,k3,rfl⟩:=p
   refine (q H' hs).1 { row:=fun row hrow=>?_,d1:=hd1,d6:=hd6,r1:=by omega,r400:=by omega,ll:=hll }
   obtain ⟨j,hj⟩:=List.getElem?_of_mem hrow
   obtain ⟨hj1,_⟩:=List.getElem?_eq_some_iff.mp hj
   exact done j (by rw [hlen];exact hj1) row hj
theorem sc_check_word:FnScope ["doors","word","door"] ["doors","word"] (defScope s_check_word):=⟨rfl,rfl,rfl,by decide +kernel,rfl,by decide +kernel,by decide +kernel⟩
theorem b_check_word (T:Txt K mg t):Binds K t.fd_check_word ["doors","word"] []:=T.F_check_word.binds fun _ _ _ _ _ _ us hl=>by obtain ⟨_,_,rfl⟩:=len_2 hl;rfl
def sp_check_word (K:PySem.W.Frag) (CB:Addr):Sp:=fun vs H Q E=>∃ (d:Int) (b:Addr) (ws:List Int),vs=[.int d,.ref b]∧SqL K H b (ws.map V.int)∧SmallW ws∧(WordOk d ws→Q .non H)∧(¬ WordOk d ws→E (.ref CB) none H)
theorem ok_check_word (T:Txt K mg t):FnOk P w K mg base (CXr P w) 1 t.f_check_word t.fd_check_word ["doors","word"] (sp_check_word K t.C_BadWord):=by
 refine T.F_check_word.okX sc_check_word (fun vs H Q E h=>?_) (fun cdv A outer s H vs Q E hr h=>?_)
 ·obtain ⟨d,b,ws,rfl,_⟩:=h
  rfl
 ·obtain ⟨d,b,ws,rfl,hS,sm,q,qe⟩:=h
  have he:¬ WordOk d ws→∀ x:Str,([V.str x]:List V).length≤sizeLine∧E (.ref t.C_BadWord) none H:=fun nv x=>⟨show 1≤sizeLine by decide,qe nv⟩
  refine ⟨_,pss_one (ps_for xp_def.own rfl (pi_listK K (pv 1)) (pg_name (i:=2) sc_check_word.nd rfl (Or.inl rfl))
 (pss_one (ps_if (pt_not (pt_chain op_le op_lt (pe_int) (pv 2) (pv 0)))
 (pss_one (ps_raise xm_def rfl rfl T.mg_BadWord T.ex_BadWord.toExcCls (pa_cons (pe_joined (pj_int (pv 2) (pj_str (pj_nil)))) (pa_nil))))
 (pss_nil)))),?_⟩
  walk_at "w";refine ⟨b,rfl,⟨_,hS⟩,?_⟩
  refine for_list (xs:=ws.map V.int) (fun i σ H'=>H'=H∧(∀ j,j < i→∀ x,ws[j]?=some x→0≤x∧x < d)∧∃ kv,σ=[some (.int d),some (.ref b),kv]) ⟨rfl,fun j hj=>absurd hj (Nat.not_lt_zero j),none,rfl⟩ (fun i σ H' _ p=>by rw [p.1];exact hS) (fun i x σ H' hx p=>?_) (fun σ H' p=>?_)
  ·obtain ⟨rfl,done,kv,rfl⟩:=p
   have hx0:=int_map_inv hx
   clear hx
   obtain ⟨x,rfl,hx⟩:=hx0
   obtain ⟨s0,s1⟩:=sm x (List.mem_of_getElem? hx)
   have nv:¬ (0≤x∧x < d)→¬ WordOk d ws:=fun nx V=>nx (V x (List.mem_of_getElem? hx))
   walk_at "w";refine r_ite (fun x0=>?_) (fun x0=>?_)
   rotate_left
   ·walk_at "w";refine r_iteP rfl ?_
    walk_at "w";refine ⟨_,rfl,small_log s0 s1,?_⟩
    walk_at "w";exact he (nv fun z=>by have:=z.1;simp at x0;omega)
   have x0:=of_decide_eq_true x0
   walk_at "w";refine r_ite (fun x1=>?_) (fun x1=>?_)
   ·walk_at "w";refine ⟨_,rfl,small_log s0 s1,?_⟩
    walk_at "w";exact he (nv fun z=>by have:=z.2;simp at x1;omega)
   have x1:x < d:=by simpa using x1
   walk_at "w";refine ⟨rfl,fun j hj y hy=>?_,_,rfl⟩
   rcases Nat.lt_or_ge j i with hji | hji
   ·exact done j hji y hy
   ·have:j=i:=by omega
    subst this
    rw [hx] at hy;cases hy
    exact ⟨x0,x1⟩
  ·obtain ⟨rfl,done,kv,rfl⟩:=p
   refine q fun x hx=>?_
   obtain ⟨j,hj⟩:=List.getElem?_of_mem hx
   refine done j ?_ x hj
   obtain ⟨hj1,_⟩:=List.getElem?_eq_some_iff.mp hj
   rw [List.length_map];exact hj1
theorem sc_House_init:FnScope ["self","doors","ways","lamps"] ["self","doors","ways","lamps"] (defScope s_House_init):=⟨rfl,rfl,rfl,by decide +kernel,rfl,by decide +kernel,by decide +kernel⟩
theorem b_House_init (T:Txt K mg t):Binds K t.fd_House_init ["self","doors","ways","lamps"] []:=T.F_House_init.binds fun _ _ _ _ _ _ us hl=>by obtain ⟨_,_,_,_,rfl⟩:=len_4 hl;rfl
def sp_House_init (K:PySem.W.Frag) (C CB:Addr):Sp:=fun vs H Q E=>∃ (p dx:Addr) (d:Int) (a:Addr) (rs:List Addr) (rss:List (List Int)) (l:Addr) (ls:List Bool),vs=[.ref p,.int d,.ref a,.ref l]∧H p=some (.ins C dx [])∧Mat H a rs rss∧SqL K H l (ls.map V.bl)∧SmallH d rss ∧
 (Valid d rss ls→∀ (H':Hp) (aw:Addr) (rs':List Addr) (al:Addr),HouseAt C H' p d aw rs' rss al ls→(∀ b o,H b=some o→b≠p→H' b=some o)→(∀ b∈al :: aw :: rs',H b=none)→Q .non H') ∧
 (¬ Valid d rss ls→∀ H',Same H H'→E (.ref CB) none H')
theorem ok_House_init (T:Txt K mg t):FnOk P w K mg base (CXr P w) 3 t.f_House_init t.fd_House_init ["self","doors","ways","lamps"] (sp_House_init K t.C_House t.C_BadHouse):=by
 refine T.F_House_init.okX sc_House_init (fun vs H Q E h=>?_) (fun cdv A outer s H vs Q E hr h=>?_)
 ·obtain ⟨p,dx,d,a,rs,rss,l,ls,rfl,_⟩:=h
  rfl
 ·obtain ⟨p,dx,d,a,rs,rss,l,ls,rfl,hp,M,hL,Sm,q,qe⟩:=h
  refine ⟨_,pss_cons (ps_expr (pe_call (ok_check_house T) (hr.mono (by decide)) rfl T.mg_check_house T.F_check_house.kp (b_check_house T) .nil xp_def.pass (pa_cons (pv 1) (pa_cons (pv 2) (pa_cons (pv 3) (pa_nil))))))
 (pss_cons (ps_fldK K (pv 0) (pv 1) rfl)
 (pss_cons (ps_fldK K (pv 0) (pe_comp (N:=["self","doors","ways","lamps"]) (sc0:=(defScope s_House_init)) (N':=["row"]) (caps:=[none]) (by exact ⟨rfl,by decide +kernel,by decide +kernel,by decide +kernel,rfl,rfl,by decide +kernel⟩) rfl (pi_listK K (pv 2)) (fun _ _ _ _ _ _=>pg_name (i:=0) (show List.Nodup (["row"]:List Str) from by decide +kernel) rfl (Or.inl rfl)) (fun _ _ _ _ _ _=>pe_callTy (call_list_ofK K) rfl T.m_list boot_list (pa_cons (pv 0) (pa_nil)))) rfl)
 (pss_one (ps_fldK K (pv 0) (pe_callTy (call_list_ofK K) rfl T.m_list boot_list (pa_cons (pv 3) (pa_nil))) rfl)))),?_⟩
  walk_at "w";refine ⟨d,a,rs,rss,l,ls,rfl,M,hL,Sm,fun H1 hs1=>⟨fun Vd=>?_,fun nv=>qe nv H1 hs1⟩⟩
  walk_at "w";refine ⟨p,_,dx,_,rfl,hs1 _ _ hp,T.cl_House,T.na_House_doors,(by show 0 < 1000;decide),?_⟩
  walk_at "w";have hpa:∀ {b:Addr} {xs:List V},H b=some (.lst xs)→b≠p:=fun e=>ne_of e hp (by intro z;cases z)
  have k1:∀ (b:Addr) (o:HO),H b=some o→b≠p→(upd H1 p (.ins t.C_House dx (putF "doors" (.int d) []))) b=some o:=fun b o e hb=>by rw [upd_ne hb];exact hs1 b o e
  have n1:∀ b,(upd H1 p (.ins t.C_House dx (putF "doors" (.int d) []))) b=none→H b=none:=fun b e=>by
   by_cases hb:b=p
   ·subst hb;rw [upd_same] at e;cases e
   ·rw [upd_ne hb] at e;exact hs1.free e
  generalize hH2:upd H1 p (.ins t.C_House dx (putF "doors" (.int d) []))=H2 at k1 n1 ⊢
  have hp2:H2 p=some (.ins t.C_House dx (putF "doors" (.int d) [])):=by rw [← hH2];exact upd_same
  have M2:Mat H2 a rs rss:=⟨k1 _ _ M.top (hpa M.top),M.len,fun i r row h1 h2=>k1 _ _ (M.row i r row h1 h2) (hpa (M.row i r row h1 h2)),M.nd⟩
  refine ⟨a,rfl,⟨_,SqL.of M2.top⟩,?_⟩
  have h400:=Vd.r400
  refine comp_copy M2 (by omega) fun aw rs' H' hs3 M3 new3=>?_
  have G:Same H2 H':=hs3
  (
   have hp3:H' p=some (.ins t.C_House dx (putF "doors" (.int d) [])):=G _ _ hp2
   walk_at "w";refine ⟨p,_,dx,_,rfl,hp3,T.cl_House,T.na_House_ways,(by show 1 < 1000;decide),?_⟩
   walk_at "w";have hl3:SqL K H l (ls.map V.bl):=hL
   have hlist:SqL K (upd H' p (.ins t.C_House dx (putF "ways" (.ref aw) (putF "doors" (.int d) [])))) l (ls.map V.bl):=by
    rcases hL with (hL | ⟨ob,hL⟩) | hL
    ·exact .inl (.inl (by rw [upd_ne (hpa hL)];exact G _ _ (k1 _ _ hL (hpa hL))))
    ·have hne:l≠p:=ne_of hL hp (by intro z;cases z)
     exact .inl (.inr ⟨ob,by rw [upd_ne hne];exact G _ _ (k1 _ _ hL hne)⟩)
    ·exact .inr hL
   refine ⟨l,_,rfl,.inl hlist,fun al hal=>?_⟩
   walk_at "w";have npa:p≠al:=fun z=>by rw [z,upd_same] at hal;cases hal
   have hal':H' al=none:=by rw [upd_ne (Ne.symm npa)] at hal;exact hal
   refine ⟨p,_,dx,_,rfl,(by rw [upd_ne npa];exact upd_same),T.cl_House,T.na_House_lamps,(by have h1:=length_putF "ways" (.ref aw) (putF "doors" (.int d) []);have h2:=length_putF "doors" (.int d) [];simp only [List.length_nil] at h2;omega),?_⟩
   have hpm:p∉aw :: rs':=fun hm=>by have:=new3 p hm;rw [hp2] at this;cases this
   have ham:al∉aw :: rs':=fun hm=>by obtain ⟨o,e⟩:=M3.mem hm;rw [e] at hal';cases hal'
   refine q Vd _ aw rs' al ⟨⟨dx,upd_same⟩,((M3.upd hpm).upd ham).upd hpm,?_⟩ (fun b o e hb=>?_) (fun b hb=>?_)
   ·rw [upd_ne (Ne.symm npa),upd_same]
   ·have e2:=G _ _ (k1 b o e hb)
    rw [upd_ne hb,upd_ne (ne_of_none e2 hal'),upd_ne hb]
    exact e2
   ·rcases List.mem_cons.mp hb with rfl | hb
    ·exact n1 _ (G.free hal')
    ·exact n1 _ (new3 b hb)
  )
theorem sc_House_rooms:FnScope ["self"] ["self"] (defScope s_House_rooms):=⟨rfl,rfl,rfl,by decide +kernel,rfl,by decide +kernel,by decide +kernel⟩
theorem b_House_rooms (T:Txt K mg t):Binds K t.fd_House_rooms ["self"] []:=T.F_House_rooms.binds fun _ _ _ _ _ _ us hl=>by obtain ⟨_,rfl⟩:=len_1 hl;rfl
def sp_House_rooms (C:Addr):Sp:=fun vs H Q _=>∃ (p:Addr) (d:Int) (aw:Addr) (rs:List Addr) (rss:List (List Int)) (al:Addr) (ls:List Bool),vs=[.ref p]∧HouseAt C H p d aw rs rss al ls∧Q (.int rss.length) H
theorem ok_House_rooms (T:Txt K mg t):FnOk P w K mg base CX0 1 t.f_House_rooms t.fd_House_rooms ["self"] (sp_House_rooms t.C_House):=by
 refine T.F_House_rooms.ok sc_House_rooms (fun vs H Q E h=>?_) (fun cdv A outer s H vs Q E hr h=>?_)
 ·obtain ⟨p,d,aw,rs,rss,al,ls,rfl,_⟩:=h
  rfl
 ·obtain ⟨p,d,aw,rs,rss,al,ls,rfl,hh,q⟩:=h
  obtain ⟨dx,ho⟩:=hh.ob
  refine ⟨_,pss_one (ps_ret (pe_callB (call_len_seqK K) rfl T.m_len PySem.boot_len (pa_cons (pe_fldK K (pv 0) rfl) (pa_nil)))),?_⟩
  walk_at "w";refine ⟨_,rfl,p,_,dx,_,_,rfl,ho,T.cl_House,T.na_House_ways,hfs_ways _ _ _,?_⟩
  walk_at "w";refine ⟨aw,_,rfl,.inl (SqL.of hh.ways.top),?_⟩
  rw [List.length_map,hh.ways.len]
  exact q
theorem sc_House_trail:FnScope ["self","word","walked","door"] ["self","word"] (defScope s_House_trail):=⟨rfl,rfl,rfl,by decide +kernel,rfl,by decide +kernel,by decide +kernel⟩
theorem b_House_trail (T:Txt K mg t):Binds K t.fd_House_trail ["self","word"] []:=T.F_House_trail.binds fun _ _ _ _ _ _ us hl=>by obtain ⟨_,_,rfl⟩:=len_2 hl;rfl
def sp_House_trail (K:PySem.W.Frag) (C CB:Addr):Sp:=fun vs H Q E=>∃ (p:Addr) (d:Int) (aw:Addr) (rs:List Addr) (rss:List (List Int)) (al:Addr) (ls:List Bool) (b:Addr) (ws:List Int),vs=[.ref p,.ref b]∧HouseAt C H p d aw rs rss al ls∧Ways d rss∧0 < rss.length ∧
 SqL K H b (ws.map V.int)∧SmallW ws∧ws.length≤900∧(WordOk d ws→∀ l,H l=none→Q (.ref l) (upd H l (.lst ((trailI rss ws).map V.int))))∧(¬ WordOk d ws→E (.ref CB) none H)
theorem ok_House_trail (T:Txt K mg t):FnOk P w K mg base (CXr P w) 2 t.f_House_trail t.fd_House_trail ["self","word"] (sp_House_trail K t.C_House t.C_BadWord):=by
 refine T.F_House_trail.okX sc_House_trail (fun vs H Q E h=>?_) (fun cdv A outer s H vs Q E hr h=>?_)
 ·obtain ⟨p,d,aw,rs,rss,al,ls,b,ws,rfl,_⟩:=h
  rfl
 ·obtain ⟨p,d,aw,rs,rss,al,ls,b,ws,rfl,hh,W,hpos,hS,sm,hl,q,qe⟩:=h
  obtain ⟨dx,ho⟩:=hh.ob
  refine ⟨_,pss_cons (ps_expr (pe_call (ok_check_word T) (hr.mono (by decide)) rfl T.mg_check_word T.F_check_word.kp (b_check_word T) .nil xp_def.pass (pa_cons (pe_fldK K (pv 0) rfl) (pa_cons (pv 1) (pa_nil)))))
 (pss_cons (ps_set (i:=2) sc_House_trail.nd rfl (Or.inl rfl) (pe_lst (pa_cons (pe_int) (pa_nil))))
 (pss_cons (ps_for xp_def.own rfl (pi_listK K (pv 1)) (pg_name (i:=3) sc_House_trail.nd rfl (Or.inl rfl))
 (pss_one (ps_expr (pe_bmK K PySem.F.plainAttrs_list PySem.F.slot_list_append PySem.F.type_list_append mt_append (pv 2) (pa_cons (pe_ix (ix_listK K) (pe_ix (ix_listK K) (pe_fldK K (pv 0) rfl) (pe_ix (ix_listK K) (pv 2) (pe_un un_neg (pe_int)) (fun _ _=>rfl)) (fun _ _=>rfl)) (pv 3) (fun _ _=>rfl)) (pa_nil))))))
 (pss_one (ps_ret (pv 2))))),?_⟩
  walk_at "w";refine ⟨_,rfl,p,_,dx,_,_,rfl,ho,T.cl_House,T.na_House_doors,hfs_doors _ _ _,?_⟩
  walk_at "w";refine ⟨d,b,ws,rfl,hS,sm,fun hw=>?_,fun nw=>qe nw⟩
  walk_at "w";refine ⟨by show 1≤sizeLine;decide,fun l hl0=>?_⟩
  walk_at "w";have hne:∀ {x:Addr} {o:HO},H x=some o→x≠l:=fun e=>ne_of_none e hl0
  have hs:∀ o,Same H (upd H l o):=fun o=>Same.upd_new hl0
  refine ⟨b,rfl,⟨_,sqL_same (hs _) hS⟩,?_⟩
  refine for_list (xs:=ws.map V.int) (fun i σ H'=>H'=upd H l (.lst (((List.range (i+1)).map fun j=>walkI rss 0 (ws.take j)).map V.int))∧∃ kv,σ=[some (.ref p),some (.ref b),some (.ref l),kv]) ⟨rfl,none,rfl⟩ (fun i σ H' _ p=>by rw [p.1];exact sqL_same (hs _) hS) (fun i x σ H' hx p=>?_) (fun σ H' p=>?_)
  ·obtain ⟨rfl,kv,rfl⟩:=p
   have hx0:=int_map_inv hx
   clear hx
   obtain ⟨x,rfl,hx⟩:=hx0
   obtain ⟨x0,x1⟩:=hw x (List.mem_of_getElem? hx)
   obtain ⟨b0,b1⟩:=walkI_in W (hw.take i) (Int.le_refl 0) (by omega)
   obtain ⟨row,e1,e2,_,_⟩:=step_in W b0 b1 x0 x1
   obtain ⟨r,e3,e4,e5⟩:=hh.ways.get e1
   have hi:i < ws.length:=(List.getElem?_eq_some_iff.mp hx).1
   have elast:((List.range (i+1)).map fun j=>walkI rss 0 (ws.take j)).map V.int=(((List.range i).map fun j=>walkI rss 0 (ws.take j)).map V.int)++[V.int (walkI rss 0 (ws.take i))]:=by
    rw [map_range_snoc,List.map_append];rfl
   walk_at "w";refine ⟨.inl ⟨rfl,_,SqL.of upd_same⟩,?_⟩
   walk_at "w";refine ⟨_,rfl,p,_,dx,_,_,rfl,hs _ _ _ ho,T.cl_House,T.na_House_ways,hfs_ways _ _ _,?_⟩
   walk_at "w";refine r_ixL (SqL.of upd_same) (by rw [elast];exact atI_last _ _) ?_
   walk_at "w";refine r_ixL (SqL.of (hs _ _ _ hh.ways.top)) (atI_get' b0 e4) ?_
   walk_at "w";refine r_ixL (SqL.of (hs _ _ _ e5)) (atI_get' x0 (int_map_get e2)) ?_
   walk_at "w";refine ⟨l,_,_,rfl,rfl,upd_same,small1000 (by simp;omega),?_⟩
   refine ⟨?_,_,rfl⟩
   rw [upd_upd,map_range_snoc (fun j=>walkI rss 0 (ws.take j)) (i+1),take_snoc hx,walkI_snoc,List.map_append]
   rfl
  ·obtain ⟨rfl,kv,rfl⟩:=p
   walk_at "w";have:=q hw l hl0
   unfold trailI at this
   rw [List.length_map]
   exact this
theorem sc_House_room_of:FnScope ["self","word"] ["self","word"] (defScope s_House_room_of):=⟨rfl,rfl,rfl,by decide +kernel,rfl,by decide +kernel,by decide +kernel⟩
theorem b_House_room_of (T:Txt K mg t):Binds K t.fd_House_room_of ["self","word"] []:=T.F_House_room_of.binds fun _ _ _ _ _ _ us hl=>by obtain ⟨_,_,rfl⟩:=len_2 hl;rfl
def sp_House_room_of (K:PySem.W.Frag) (C CB:Addr):Sp:=fun vs H Q E=>∃ (p:Addr) (d:Int) (aw:Addr) (rs:List Addr) (rss:List (List Int)) (al:Addr) (ls:List Bool) (b:Addr) (ws:List Int),vs=[.ref p,.ref b]∧HouseAt C H p d aw rs rss al ls∧Ways d rss∧0 < rss.length ∧
 SqL K H b (ws.map V.int)∧SmallW ws∧ws.length≤900∧(WordOk d ws→∀ H',Same H H'→Q (.int (walkI rss 0 ws)) H')∧(¬ WordOk d ws→E (.ref CB) none H)
theorem ok_House_room_of (T:Txt K mg t):FnOk P w K mg base (CXr P w) 3 t.f_House_room_of t.fd_House_room_of ["self","word"] (sp_House_room_of K t.C_House t.C_BadWord):=by
 refine T.F_House_room_of.okX sc_House_room_of (fun vs H Q E h=>?_) (fun cdv A outer s H vs Q E hr h=>?_)
 ·obtain ⟨p,d,aw,rs,rss,al,ls,b,ws,rfl,_⟩:=h
  rfl
 ·obtain ⟨p,d,aw,rs,rss,al,ls,b,ws,rfl,hh,W,hpos,hS,sm,hl,q,qe⟩:=h
  obtain ⟨dx,ho⟩:=hh.ob
  refine ⟨_,pss_one (ps_ret (pe_ix (ix_listK K) (pe_meth (pv 0) T.cl_House T.me_House_trail (ok_House_trail T) (hr.mono (by decide)) (b_House_trail T) .nil xp_def.pass (pa_cons (pv 1) (pa_nil))) (pe_un un_neg (pe_int)) (fun _ _=>rfl))),?_⟩
  walk_at "w";refine ⟨p,dx,_,rfl,ho,hfs_no _ _ _ (by decide +kernel) (by decide +kernel) (by decide +kernel),?_⟩
  walk_at "w";refine ⟨p,d,aw,rs,rss,al,ls,b,ws,rfl,hh,W,hpos,hS,sm,hl,fun hw l hl0=>?_,fun nw=>qe nw⟩
  walk_at "w";have elast:(trailI rss ws).map V.int=(((List.range ws.length).map fun j=>walkI rss 0 (ws.take j)).map V.int)++[V.int (walkI rss 0 ws)]:=by
   unfold trailI
   rw [map_range_snoc,List.map_append,List.take_length];rfl
  refine r_ixL (SqL.of upd_same) (by rw [elast];exact atI_last _ _) ?_
  exact q hw _ (Same.upd_new hl0)
theorem sc_House_says:FnScope ["self","word"] ["self","word"] (defScope s_House_says):=⟨rfl,rfl,rfl,by decide +kernel,rfl,by decide +kernel,by decide +kernel⟩
theorem b_House_says (T:Txt K mg t):Binds K t.fd_House_says ["self","word"] []:=T.F_House_says.binds fun _ _ _ _ _ _ us hl=>by obtain ⟨_,_,rfl⟩:=len_2 hl;rfl
def sp_House_says (K:PySem.W.Frag) (C CB:Addr):Sp:=fun vs H Q E=>∃ (p:Addr) (d:Int) (aw:Addr) (rs:List Addr) (rss:List (List Int)) (al:Addr) (ls:List Bool) (b:Addr) (ws:List Int),vs=[.ref p,.ref b]∧HouseAt C H p d aw rs rss al ls∧Ways d rss∧0 < rss.length∧ls.length=rss.length ∧
 SqL K H b (ws.map V.int)∧SmallW ws∧ws.length≤900∧(WordOk d ws→∀ H',Same H H'→Q (.bl (ls.getD (walkI rss 0 ws).toNat false)) H')∧(¬ WordOk d ws→E (.ref CB) none H)
theorem ok_House_says (T:Txt K mg t):FnOk P w K mg base (CXr P w) 4 t.f_House_says t.fd_House_says ["self","word"] (sp_House_says K t.C_House t.C_BadWord):=by
 refine T.F_House_says.okX sc_House_says (fun vs H Q E h=>?_) (fun cdv A outer s H vs Q E hr h=>?_)
 ·obtain ⟨p,d,aw,rs,rss,al,ls,b,ws,rfl,_⟩:=h
  rfl
 ·obtain ⟨p,d,aw,rs,rss,al,ls,b,ws,rfl,hh,W,hpos,hll,hS,sm,hl,q,qe⟩:=h
  obtain ⟨dx,ho⟩:=hh.ob
  refine ⟨_,pss_one (ps_ret (pe_ix (ix_listK K) (pe_fldK K (pv 0) rfl) (pe_meth (pv 0) T.cl_House T.me_House_room_of (ok_House_room_of T) (hr.mono (by decide)) (b_House_room_of T) .nil xp_def.pass (pa_cons (pv 1) (pa_nil))) (fun _ _=>rfl))),?_⟩
  walk_at "w";refine ⟨_,rfl,p,_,dx,_,_,rfl,ho,T.cl_House,T.na_House_lamps,hfs_lamps _ _ _,?_⟩
  walk_at "w";refine ⟨p,dx,_,rfl,ho,hfs_no _ _ _ (by decide +kernel) (by decide +kernel) (by decide +kernel),?_⟩
  walk_at "w";refine ⟨p,d,aw,rs,rss,al,ls,b,ws,rfl,hh,W,hpos,hS,sm,hl,fun hw H1 hs=>?_,fun nw=>qe nw⟩
  obtain ⟨b0,b1⟩:=walkI_in W hw (Int.le_refl 0) (by omega)
  have hi:(walkI rss 0 ws).toNat < ls.length:=by omega
  refine r_ixL (SqL.of (hs _ _ hh.lamps)) (atI_get' b0 (bl_map_get (List.getElem?_eq_getElem hi))) ?_
  have:=q hw H1 hs
  rw [List.getD_eq_getElem?_getD,List.getElem?_eq_getElem hi,Option.getD_some] at this
  exact this
theorem sc_Book_init:FnScope ["self","doors"] ["self","doors"] (defScope s_Book_init):=⟨rfl,rfl,rfl,by decide +kernel,rfl,by decide +kernel,by decide +kernel⟩
theorem b_Book_init (T:Txt K mg t):Binds K t.fd_Book_init ["self","doors"] []:=T.F_Book_init.binds fun _ _ _ _ _ _ us hl=>by obtain ⟨_,_,rfl⟩:=len_2 hl;rfl
def sp_Book_init (C CE:Addr):Sp:=fun vs H Q E=>∃ (p dx:Addr) (d:Int),vs=[.ref p,.int d]∧H p=some (.ins C dx [])∧-1000000≤d∧d≤1000000 ∧
 (1≤d∧d≤6→∀ (H':Hp) (nb:Addr),BookAt C H' p d nb []→(∀ b o,H b=some o→b≠p→H' b=some o)→H nb=none→Q .non H')∧(¬ (1≤d∧d≤6)→E (.ref CE) none H)
theorem ok_Book_init (T:Txt K mg t):FnOk P w K mg base (CXr P w) 2 t.f_Book_init t.fd_Book_init ["self","doors"] (sp_Book_init t.C_Book t.C_BadHouse):=by
 refine T.F_Book_init.okX sc_Book_init (fun vs H Q E h=>?_) (fun cdv A outer s H vs Q E hr h=>?_)
 ·obtain ⟨p,dx,d,rfl,_⟩:=h
  rfl
 ·obtain ⟨p,dx,d,rfl,hp,hdl,hdu,q,qe⟩:=h
  refine ⟨_,pss_cons (ps_expr (pe_call (ok_check_doors T) (hr.mono (by decide)) rfl T.mg_check_doors T.F_check_doors.kp (b_check_doors T) .nil xp_def.pass (pa_cons (pv 1) (pa_nil))))
 (pss_cons (ps_fldK K (pv 0) (pv 1) rfl)
 (pss_one (ps_fldK K (pv 0) (pe_dnewT) rfl))),?_⟩
  walk_at "w";refine ⟨d,rfl,hdl,hdu,fun hd=>?_,qe⟩
  walk_at "w";refine ⟨p,_,dx,_,rfl,hp,T.cl_Book,T.na_Book_doors,(by show 0 < 1000;decide),?_⟩
  walk_at "w";intro nb hnb
  have npn:p≠nb:=fun z=>by rw [← z,upd_same] at hnb;cases hnb
  have hnb':H nb=none:=by rw [upd_ne (Ne.symm npn)] at hnb;exact hnb
  walk_at "w";refine ⟨p,_,dx,_,rfl,(by rw [upd_ne npn];exact upd_same),T.cl_Book,T.na_Book_noted,(by have h2:=length_putF "doors" (.int d) [];simp only [List.length_nil] at h2;omega),?_⟩
  refine q hd _ nb ⟨⟨dx,upd_same⟩,by rw [upd_ne (Ne.symm npn),upd_same];rfl,by simp⟩ (fun b o e hb=>?_) hnb'
  rw [upd_ne hb,upd_ne (ne_of_none e hnb'),upd_ne hb];exact e
theorem sc_Book_said:FnScope ["self","word"] ["self","word"] (defScope s_Book_said):=⟨rfl,rfl,rfl,by decide +kernel,rfl,by decide +kernel,by decide +kernel⟩
theorem b_Book_said (T:Txt K mg t):Binds K t.fd_Book_said ["self","word"] []:=T.F_Book_said.binds fun _ _ _ _ _ _ us hl=>by obtain ⟨_,_,rfl⟩:=len_2 hl;rfl
def sp_Book_said (K:PySem.W.Frag) (C CB:Addr):Sp:=fun vs H Q E=>∃ (p:Addr) (d:Int) (nb:Addr) (kvs:List (List Int×Bool)) (b:Addr) (ws:List Int),vs=[.ref p,.ref b]∧BookAt C H p d nb kvs∧SqL K H b (ws.map V.int)∧SmallW ws ∧
 (WordOk d ws→∀ H',Same H H'→Q (saidV kvs ws) H')∧(¬ WordOk d ws→E (.ref CB) none H)
theorem ok_Book_said (T:Txt K mg t):FnOk P w K mg base (CXr P w) 2 t.f_Book_said t.fd_Book_said ["self","word"] (sp_Book_said K t.C_Book t.C_BadWord):=by
 refine T.F_Book_said.okX sc_Book_said (fun vs H Q E h=>?_) (fun cdv A outer s H vs Q E hr h=>?_)
 ·obtain ⟨p,d,nb,kvs,b,ws,rfl,_⟩:=h
  rfl
 ·obtain ⟨p,d,nb,kvs,b,ws,rfl,bk,hS,sm,q,qe⟩:=h
  obtain ⟨dx,ho⟩:=bk.ob
  refine ⟨_,pss_cons (ps_expr (pe_call (ok_check_word T) (hr.mono (by decide)) rfl T.mg_check_word T.F_check_word.kp (b_check_word T) .nil xp_def.pass (pa_cons (pe_fldK K (pv 0) rfl) (pa_cons (pv 1) (pa_nil)))))
 (pss_one (ps_ret (pe_dget1 hr.units1 (pe_fldK K (pv 0) rfl) (pe_callTy (call_tuple_ofK K) rfl T.m_tuple boot_tuple (pa_cons (pv 1) (pa_nil))) ⟨rfl,rfl,rfl,rfl⟩))),?_⟩
  walk_at "w";refine ⟨_,rfl,p,_,dx,_,_,rfl,ho,T.cl_Book,T.na_Book_doors,bkf_doors _ _,?_⟩
  walk_at "w";refine ⟨d,b,ws,rfl,hS,sm,fun hw=>?_,fun nw=>qe nw⟩
  walk_at "w";refine ⟨_,rfl,p,_,dx,_,_,rfl,ho,T.cl_Book,T.na_Book_noted,bkf_noted _ _,?_⟩
  refine ⟨nb,rfl,.inr ⟨_,.inl bk.noted⟩,?_⟩
  walk_at "w";refine ⟨b,_,rfl,.inl ⟨hS,fun tp htp=>?_⟩⟩
  refine ⟨_,DGet.t (k:=ws.map Sum.inl) (by rw [upd_ne (ne_of_none bk.noted htp)];exact bk.noted) (by rw [upd_same,kv_inl]),?_⟩
  rw [valV_bkv]
  exact q hw _ (Same.upd_new htp)
theorem sc_Book_check_note:FnScope ["self","word","lit","before"] ["self","word","lit"] (defScope s_Book_check_note):=⟨rfl,rfl,rfl,by decide +kernel,rfl,by decide +kernel,by decide +kernel⟩
theorem b_Book_check_note (T:Txt K mg t):Binds K t.fd_Book_check_note ["self","word","lit"] []:=T.F_Book_check_note.binds fun _ _ _ _ _ _ us hl=>by obtain ⟨_,_,_,rfl⟩:=len_3 hl;rfl
def sp_Book_check_note (K:PySem.W.Frag) (C CB CS:Addr):Sp:=fun vs H Q E=>∃ (p:Addr) (d:Int) (nb:Addr) (kvs:List (List Int×Bool)) (b:Addr) (ws:List Int) (lit:Bool),vs=[.ref p,.ref b,.bl lit]∧BookAt C H p d nb kvs∧SqL K H b (ws.map V.int)∧SmallW ws ∧
 (WordOk d ws→saidO kvs ws≠some (!lit)→∀ H',Same H H'→Q .non H') ∧
 (WordOk d ws→saidO kvs ws=some (!lit)→∀ H',Same H H'→E (.ref CS) none H')∧(¬ WordOk d ws→E (.ref CB) none H)
theorem ok_Book_check_note (T:Txt K mg t):FnOk P w K mg base (CXr P w) 3 t.f_Book_check_note t.fd_Book_check_note ["self","word","lit"] (sp_Book_check_note K t.C_Book t.C_BadWord t.C_SaidOtherwise):=by
 refine T.F_Book_check_note.okX sc_Book_check_note (fun vs H Q E h=>?_) (fun cdv A outer s H vs Q E hr h=>?_)
 ·obtain ⟨p,d,nb,kvs,b,ws,lit,rfl,_⟩:=h
  rfl
 ·obtain ⟨p,d,nb,kvs,b,ws,lit,rfl,bk,hS,sm,q1,q3,qe⟩:=h
  obtain ⟨dx,ho⟩:=bk.ob
  refine ⟨_,pss_cons (ps_set (i:=3) sc_Book_check_note.nd rfl (Or.inl rfl) (pe_meth (pv 0) T.cl_Book T.me_Book_said (ok_Book_said T) (hr.mono (by decide)) (b_Book_said T) .nil xp_def.pass (pa_cons (pv 1) (pa_nil))))
 (pss_one (ps_if (PW.pt (pw_and (pt_cmpR op_notN (pv 3) (pe_non) (nomark _)) (pw_and1 (pt_cmpR op_ne (pv 3) (pv 2) (nomark _)))))
 (pss_one (ps_raise xm_def rfl rfl T.mg_SaidOtherwise T.ex_SaidOtherwise.toExcCls (pa_cons (pe_joined (pj_bl (pv 3) (pj_str (pj_nil)))) (pa_nil))))
 (pss_nil))),?_⟩
  walk_at "w";refine ⟨p,dx,_,rfl,ho,bkf_no _ _ (by decide +kernel) (by decide +kernel),?_⟩
  walk_at "w";refine ⟨p,d,nb,kvs,b,ws,rfl,bk,hS,sm,fun hw H1 hs1=>?_,fun nw=>qe nw⟩
  walk_at "w";refine ⟨rfl,?_⟩
  walk_at "w";cases hsaid:saidO kvs ws with
  | none =>
   refine r_iteN (by simp [saidV,hsaid]) ?_
   walk_at "w";refine r_iteN rfl ?_
   exact q1 hw (by rw [hsaid];intro z;cases z) _ hs1
  | some c =>
   refine r_iteP (by simp [saidV,hsaid]) ?_
   walk_at "w";have hv:saidV kvs ws=.bl c:=by simp [saidV,hsaid]
   rw [hv]
   refine r_ne rfl ?_
   walk_at "w";by_cases hcl:c=lit
   ·subst hcl
    refine r_iteN (by simp) ?_
    exact q1 hw (by rw [hsaid];intro z;cases c <;> simp at z) _ hs1
   ·have hc2:c=!lit:=by cases c <;> cases lit <;> simp_all
    refine r_iteP (by simpa using hcl) ?_
    walk_at "w";exact fun _=>⟨show 1≤sizeLine by decide,q3 hw (by rw [hsaid,hc2]) _ hs1⟩
theorem sc_Book_note:FnScope ["self","word","lit"] ["self","word","lit"] (defScope s_Book_note):=⟨rfl,rfl,rfl,by decide +kernel,rfl,by decide +kernel,by decide +kernel⟩
theorem b_Book_note (T:Txt K mg t):Binds K t.fd_Book_note ["self","word","lit"] []:=T.F_Book_note.binds fun _ _ _ _ _ _ us hl=>by obtain ⟨_,_,_,rfl⟩:=len_3 hl;rfl
def sp_Book_note (K:PySem.W.Frag) (C CB CS:Addr):Sp:=fun vs H Q E=>∃ (p:Addr) (d:Int) (nb:Addr) (kvs:List (List Int×Bool)) (b:Addr) (ws:List Int) (lit:Bool),vs=[.ref p,.ref b,.bl lit]∧BookAt C H p d nb kvs∧SqL K H b (ws.map V.int)∧SmallW ws∧kvs.length≤100000 ∧
 (WordOk d ws→saidO kvs ws=none→∀ H',BookAt C H' p d nb (kvs++[(ws,lit)])→(∀ y o,y≠nb→H y=some o→H' y=some o)→Q .non H') ∧
 (WordOk d ws→saidO kvs ws=some lit→∀ H',Same H H'→Q .non H') ∧
 (WordOk d ws→saidO kvs ws=some (!lit)→∀ H',Same H H'→E (.ref CS) none H')∧(¬ WordOk d ws→E (.ref CB) none H)
theorem ok_Book_note (T:Txt K mg t):FnOk P w K mg base (CXr P w) 4 t.f_Book_note t.fd_Book_note ["self","word","lit"] (sp_Book_note K t.C_Book t.C_BadWord t.C_SaidOtherwise):=by
 refine T.F_Book_note.okX sc_Book_note (fun vs H Q E h=>?_) (fun cdv A outer s H vs Q E hr h=>?_)
 ·obtain ⟨p,d,nb,kvs,b,ws,lit,rfl,_⟩:=h
  rfl
 ·obtain ⟨p,d,nb,kvs,b,ws,lit,rfl,bk,hS,sm,h900,q1,q2,q3,qe⟩:=h
  obtain ⟨dx,ho⟩:=bk.ob
  refine ⟨_,pss_cons (ps_expr (pe_meth (pv 0) T.cl_Book T.me_Book_check_note (ok_Book_check_note T) (hr.mono (by decide)) (b_Book_check_note T) .nil xp_def.pass (pa_cons (pv 1) (pa_cons (pv 2) (pa_nil)))))
 (pss_one (ps_dput hr.units1 (pe_fldK K (pv 0) rfl) (pe_callTy (call_tuple_ofK K) rfl T.m_tuple boot_tuple (pa_cons (pv 1) (pa_nil))) (pv 2) rfl)),?_⟩
  walk_at "w";refine ⟨p,dx,_,rfl,ho,bkf_no _ _ (by decide +kernel) (by decide +kernel),?_⟩
  walk_at "w";refine ⟨p,d,nb,kvs,b,ws,lit,rfl,bk,hS,sm,fun hw hno H1 hs1=>?_,fun hw hs=>q3 hw hs,fun nw=>qe nw⟩
  walk_at "w";have bk1:=bk.same hs1
  obtain ⟨dx1,ho1⟩:=bk1.ob
  refine ⟨_,rfl,p,_,dx1,_,_,rfl,ho1,T.cl_Book,T.na_Book_noted,bkf_noted _ _,?_⟩
  walk_at "w";refine ⟨b,_,rfl,.inl ⟨sqL_same hs1 hS,fun tp htp=>?_⟩⟩
  have s2:Same H1 (upd H1 tp (.tup (ws.map V.int))):=Same.upd_new htp
  have tpv:(upd H1 tp (.tup (ws.map V.int))) tp=some (.tup ((ws.map (Sum.inl:Int→Key)).map kV)):=by rw [upd_same,kv_inl]
  generalize upd H1 tp (.tup (ws.map V.int))=H2 at s2 tpv ⊢
  have bk2:=bk1.same s2
  refine ⟨nb,_,rfl,DPut.t bk2.noted tpv (by rw [List.length_map];exact Nat.lt_of_le_of_lt h900 (by decide)),?_⟩
  cases hsaid:saidO kvs ws with
  | none =>
   rw [putK_new _ (by rw [valV_bkv,hsaid];rfl)]
   walk_at "w";obtain ⟨dx2,ho2⟩:=bk2.ob
   have hpn:p≠nb:=ne_of ho2 bk2.noted (fun z=>nomatch z)
   refine q1 hw hsaid _ ⟨⟨dx2,by rw [upd_ne hpn];exact ho2⟩,by rw [upd_same,List.map_append];rfl,book_nd bk.nd hsaid⟩ fun y o hy e=>?_
   rw [upd_ne hy];exact s2 _ _ (hs1 _ _ e)
  | some c =>
   have hc:c=lit:=by
    rw [hsaid] at hno
    cases c <;> cases lit <;> simp at hno <;> rfl
   subst hc
   rw [book_again bk.nd hsaid]
   walk_at "w";refine q2 hw hsaid _ fun y o e=>?_
   have e2:=s2 _ _ (hs1 _ _ e)
   by_cases hy:y=nb
   ·subst hy;rw [bk2.noted] at e2;rw [upd_same];exact e2
   ·rw [upd_ne hy];exact e2
theorem sc_check_room:FnScope ["house","room"] ["house","room"] (defScope s_check_room):=⟨rfl,rfl,rfl,by decide +kernel,rfl,by decide +kernel,by decide +kernel⟩
theorem b_check_room (T:Txt K mg t):Binds K t.fd_check_room ["house","room"] []:=T.F_check_room.binds fun _ _ _ _ _ _ us hl=>by obtain ⟨_,_,rfl⟩:=len_2 hl;rfl
def sp_check_room (C CN:Addr):Sp:=fun vs H Q E=>∃ (p:Addr) (d:Int) (aw:Addr) (rs:List Addr) (rss:List (List Int)) (al:Addr) (ls:List Bool) (a:Int),vs=[.ref p,.int a]∧HouseAt C H p d aw rs rss al ls∧-1000000≤a∧a≤1000000 ∧
 ((0≤a∧a < rss.length)→Q .non H)∧(¬ (0≤a∧a < rss.length)→E (.ref CN) none H)
theorem ok_check_room (T:Txt K mg t):FnOk P w K mg base (CXr P w) 2 t.f_check_room t.fd_check_room ["house","room"] (sp_check_room t.C_House t.C_NoRoom):=by
 refine T.F_check_room.okX sc_check_room (fun vs H Q E h=>?_) (fun cdv A outer s H vs Q E hr h=>?_)
 ·obtain ⟨p,d,aw,rs,rss,al,ls,a,rfl,_⟩:=h
  rfl
 ·obtain ⟨p,d,aw,rs,rss,al,ls,a,rfl,hh,s0,s1,q,qe⟩:=h
  obtain ⟨dx,ho⟩:=hh.ob
  have he:¬ (0≤a∧a < rss.length)→∀ x:Str,([V.str x]:List V).length≤sizeLine∧E (.ref t.C_NoRoom) none H:=fun nv x=>⟨show 1≤sizeLine by decide,qe nv⟩
  refine ⟨_,pss_one (ps_if (pt_not (pt_chain op_le op_lt (pe_int) (pv 1) (pe_meth0 (pv 0) T.cl_House T.me_House_rooms (ok_House_rooms T) (hr.mono (by decide)) (b_House_rooms T) .nil pass0)))
 (pss_one (ps_raise xm_def rfl rfl T.mg_NoRoom T.ex_NoRoom.toExcCls (pa_cons (pe_joined (pj_int (pv 1) (pj_str (pj_nil)))) (pa_nil))))
 (pss_nil)),?_⟩
  walk_at "w";refine r_ite (fun x0=>?_) (fun x0=>?_)
  rotate_left
  ·walk_at "w";refine r_iteP rfl ?_
   walk_at "w";refine ⟨_,rfl,small_log s0 s1,?_⟩
   walk_at "w";exact he fun z=>by have:=z.1;simp at x0;omega
  have x0:=of_decide_eq_true x0
  walk_at "w";refine ⟨p,dx,_,rfl,ho,hfs_no _ _ _ (by decide +kernel) (by decide +kernel) (by decide +kernel),?_⟩
  refine ⟨p,d,aw,rs,rss,al,ls,rfl,hh,?_⟩
  walk_at "w";refine r_ite (fun x1=>?_) (fun x1=>?_)
  ·walk_at "w";refine ⟨_,rfl,small_log s0 s1,?_⟩
   walk_at "w";exact he fun z=>by have:=z.2;simp at x1;omega
  have x1:a < rss.length:=by simpa using x1
  walk_at "w";exact q ⟨x0,x1⟩
theorem sc_apart:FnScope ["house","one","other"] ["house","one","other"] (defScope s_apart):=⟨rfl,rfl,rfl,by decide +kernel,rfl,by decide +kernel,by decide +kernel⟩
theorem b_apart (T:Txt K mg t):Binds K t.fd_apart ["house","one","other"] []:=T.F_apart.binds fun _ _ _ _ _ _ us hl=>by obtain ⟨_,_,_,rfl⟩:=len_3 hl;rfl
def sp_apart (C CN:Addr):Sp:=fun vs H Q E=>∃ (p:Addr) (d:Int) (aw:Addr) (rs:List Addr) (rss:List (List Int)) (al:Addr) (ls:List Bool) (a b:Int),vs=[.ref p,.int a,.int b]∧HouseAt C H p d aw rs rss al ls∧0≤a∧a < rss.length∧rss.length≤400∧rss.length≤b∧b≤1000000∧E (.ref CN) none H
theorem ok_apart (T:Txt K mg t):FnOk P w K mg base (CXr P w) 5 t.f_apart t.fd_apart ["house","one","other"] (sp_apart t.C_House t.C_NoRoom):=by
 refine T.F_apart.okX sc_apart (fun vs H Q E h=>?_) (fun cdv A outer s H vs Q E hr h=>?_)
 ·obtain ⟨p,d,aw,rs,rss,al,ls,a,b,rfl,_⟩:=h
  rfl
 ·obtain ⟨p,d,aw,rs,rss,al,ls,a,b,rfl,hh,a0,a1,h4,b0,b1,qe⟩:=h
  obtain ⟨dx,ho⟩:=hh.ob
  refine ⟨_,pss_cons (ps_expr (pe_call (ok_check_room T) (hr.mono (by decide)) rfl T.mg_check_room T.F_check_room.kp (b_check_room T) .nil xp_def.pass (pa_cons (pv 0) (pa_cons (pv 1) (pa_nil)))))
 (pss_cons (ps_expr (pe_call (ok_check_room T) (hr.mono (by decide)) rfl T.mg_check_room T.F_check_room.kp (b_check_room T) .nil xp_def.pass (pa_cons (pv 0) (pa_cons (pv 2) (pa_nil)))))
 (pss_never)),?_⟩
  walk_at "w";refine ⟨p,d,aw,rs,rss,al,ls,a,rfl,hh,by omega,by omega,fun ha=>?_,fun na=>absurd ⟨a0,a1⟩ na⟩
  walk_at "w";exact ⟨p,d,aw,rs,rss,al,ls,b,rfl,hh,by omega,b1,fun hb=>by omega,fun _=>qe⟩
theorem sc_check_same_doors:FnScope ["one","other"] ["one","other"] (defScope s_check_same_doors):=⟨rfl,rfl,rfl,by decide +kernel,rfl,by decide +kernel,by decide +kernel⟩
theorem b_check_same_doors (T:Txt K mg t):Binds K t.fd_check_same_doors ["one","other"] []:=T.F_check_same_doors.binds fun _ _ _ _ _ _ us hl=>by obtain ⟨_,_,rfl⟩:=len_2 hl;rfl
def sp_check_same_doors (C CO:Addr):Sp:=fun vs H Q E=>∃ (p:Addr) (d:Int) (aw:Addr) (rs:List Addr) (rss:List (List Int)) (al:Addr) (ls:List Bool) (p2:Addr) (d2:Int) (aw2:Addr) (rs2:List Addr) (rss2:List (List Int)) (al2:Addr) (ls2:List Bool),vs=[.ref p,.ref p2]∧HouseAt C H p d aw rs rss al ls∧HouseAt C H p2 d2 aw2 rs2 rss2 al2 ls2∧(d=d2→Q .non H)∧(d≠d2→E (.ref CO) none H)
theorem ok_check_same_doors (T:Txt K mg t):FnOk P w K mg base (CXr P w) 1 t.f_check_same_doors t.fd_check_same_doors ["one","other"] (sp_check_same_doors t.C_House t.C_OtherDoors):=by
 refine T.F_check_same_doors.okX sc_check_same_doors (fun vs H Q E h=>?_) (fun cdv A outer s H vs Q E hr h=>?_)
 ·obtain ⟨p,d,aw,rs,rss,al,ls,p2,d2,aw2,rs2,rss2,al2,ls2,rfl,_⟩:=h
  rfl
 ·obtain ⟨p,d,aw,rs,rss,al,ls,p2,d2,aw2,rs2,rss2,al2,ls2,rfl,hh,hh2,q,qe⟩:=h
  obtain ⟨dx,ho⟩:=hh.ob
  obtain ⟨dx2,ho2⟩:=hh2.ob
  refine ⟨_,pss_one (ps_if (pt_cmpR op_ne (pe_fldK K (pv 0) rfl) (pe_fldK K (pv 1) rfl) (nomark _))
 (pss_one (ps_raise xm_def rfl rfl T.mg_OtherDoors T.ex_OtherDoors.toExcCls (pa_cons (pe_str) (pa_nil))))
 (pss_nil)),?_⟩
  walk_at "w";refine ⟨_,rfl,p,_,dx,_,_,rfl,ho,T.cl_House,T.na_House_doors,hfs_doors _ _ _,?_⟩
  walk_at "w";refine ⟨_,rfl,p2,_,dx2,_,_,rfl,ho2,T.cl_House,T.na_House_doors,hfs_doors _ _ _,?_⟩
  refine r_ne rfl ?_
  walk_at "w";refine r_ite (fun hc=>?_) (fun hc=>?_)
  ·walk_at "w";exact ⟨show 1≤sizeLine by decide,qe (fun z=>by rw [z] at hc;simp at hc)⟩
  ·walk_at "w";exact q (by simpa using hc)
theorem sc_difference:FnScope ["one","other","shift","ways","row"] ["one","other"] (defScope s_difference):=⟨rfl,rfl,rfl,by decide +kernel,rfl,by decide +kernel,by decide +kernel⟩
theorem b_difference (T:Txt K mg t):Binds K t.fd_difference ["one","other"] []:=T.F_difference.binds fun _ _ _ _ _ _ us hl=>by obtain ⟨_,_,rfl⟩:=len_2 hl;rfl
def sp_difference (C CO:Addr):Sp:=fun vs H Q E=>∃ (p:Addr) (d:Int) (aw:Addr) (rs:List Addr) (rss:List (List Int)) (al:Addr) (ls:List Bool) (p2:Addr) (d2:Int) (aw2:Addr) (rs2:List Addr) (rss2:List (List Int)) (al2:Addr) (ls2:List Bool),vs=[.ref p,.ref p2]∧HouseAt C H p d aw rs rss al ls∧HouseAt C H p2 d2 aw2 rs2 rss2 al2 ls2∧d≠d2∧E (.ref CO) none H
theorem ok_difference (T:Txt K mg t):FnOk P w K mg base (CXr P w) 5 t.f_difference t.fd_difference ["one","other"] (sp_difference t.C_House t.C_OtherDoors):=by
 refine T.F_difference.okX sc_difference (fun vs H Q E h=>?_) (fun cdv A outer s H vs Q E hr h=>?_)
 ·obtain ⟨p,d,aw,rs,rss,al,ls,p2,d2,aw2,rs2,rss2,al2,ls2,rfl,_⟩:=h
  rfl
 ·obtain ⟨p,d,aw,rs,rss,al,ls,p2,d2,aw2,rs2,rss2,al2,ls2,rfl,hh,hh2,hne,qe⟩:=h
  refine ⟨_,pss_cons (ps_expr (pe_call (ok_check_same_doors T) (hr.mono (by decide)) rfl T.mg_check_same_doors T.F_check_same_doors.kp (b_check_same_doors T) .nil xp_def.pass (pa_cons (pv 0) (pa_cons (pv 1) (pa_nil)))))
 (pss_never),?_⟩
  walk_at "w";exact ⟨p,d,aw,rs,rss,al,ls,p2,d2,aw2,rs2,rss2,al2,ls2,rfl,hh,hh2,fun e=>absurd e hne,fun _=>qe⟩
theorem sc_pairs_ahead:FnScope ["one","other","pair"] ["one","other","pair"] (defScope s_pairs_ahead):=⟨rfl,rfl,rfl,by decide +kernel,rfl,by decide +kernel,by decide +kernel⟩
theorem b_pairs_ahead (T:Txt K mg t):Binds K t.fd_pairs_ahead ["one","other","pair"] []:=T.F_pairs_ahead.binds fun _ _ _ _ _ _ us hl=>by obtain ⟨_,_,_,rfl⟩:=len_3 hl;rfl
def kP (p:Int×Int):List Key:=[.inl p.1,.inl p.2]
structure Two (C:Addr) (H:Hp) (p1 p2:Addr) (d:Int) (rss sss:List (List Int)) (ls ls2:List Bool):Prop where
 one:∃ aw rs al,HouseAt C H p1 d aw rs rss al ls
 two:∃ aw rs al,HouseAt C H p2 d aw rs sss al ls2
 V1:Valid d rss ls
 V2:Valid d sss ls2
theorem Two.same {C:Addr} {H H':Hp} {p1 p2:Addr} {d:Int} {rss sss:List (List Int)} {ls ls2:List Bool} (h:Two C H p1 p2 d rss sss ls ls2) (e:Same H H'):Two C H' p1 p2 d rss sss ls ls2 :=
 ⟨let ⟨a,b,c,q⟩:=h.one;⟨a,b,c,q.same e⟩,let ⟨a,b,c,q⟩:=h.two;⟨a,b,c,q.same e⟩,h.V1,h.V2⟩
def sp_pairs_ahead (K:PySem.W.Frag) (C:Addr):Sp:=fun vs H Q _=>∃ (p1 p2:Addr) (d:Int) (rss sss:List (List Int)) (ls ls2:List Bool) (pa:Addr) (p:Int×Int),vs=[.ref p1,.ref p2,.ref pa]∧Two C H p1 p2 d rss sss ls ls2∧H pa=some (.tup [.int p.1,.int p.2])∧InP rss sss p ∧
 ∀ (l:Addr) (ts:List Addr) (H2:Hp),Same H H2→H l=none→H2 l=some (.lst (ts.map V.ref))→ts.length=(ahead rss sss p).length→(∀ t∈ts,H t=none)→(∀ (j:Nat) t q,ts[j]?=some t→(ahead rss sss p)[j]?=some q→H2 t=some (.tup [.int q.1,.int q.2]))→Q (.ref l) H2
theorem ok_pairs_ahead (T:Txt K mg t):FnOk P w K mg base CX0 1 t.f_pairs_ahead t.fd_pairs_ahead ["one","other","pair"] (sp_pairs_ahead K t.C_House):=by
 refine T.F_pairs_ahead.ok sc_pairs_ahead (fun vs H Q E h=>?_) (fun cdv A outer s H vs Q E hr h=>?_)
 ·obtain ⟨p1,p2,d,rss,sss,ls,ls2,pa,p,rfl,_⟩:=h
  rfl
 ·obtain ⟨p1,p2,d,rss,sss,ls,ls2,pa,p,rfl,tw,hpa,hin,q⟩:=h
  obtain ⟨aw,rs,al,hh1⟩:=tw.one
  obtain ⟨aw2,rs2,al2,hh2⟩:=tw.two
  obtain ⟨dx1,ho1⟩:=hh1.ob
  obtain ⟨dx2,ho2⟩:=hh2.ob
  obtain ⟨⟨x0,x1⟩,y0,y1⟩:=hin
  have hx:p.1.toNat < rss.length:=by omega
  have hy:p.2.toNat < sss.length:=by omega
  obtain ⟨r1,e1,e1',hr1⟩:=hh1.ways.get (List.getElem?_eq_getElem hx)
  obtain ⟨r2,e2,e2',hr2⟩:=hh2.ways.get (List.getElem?_eq_getElem hy)
  have w1:=(tw.V1.row _ (List.getElem_mem hx)).1
  have w2:=(tw.V2.row _ (List.getElem_mem hy)).1
  have hd1:=tw.V1.d1
  have hd6:=tw.V1.d6
  have ea:ahead rss sss p=(rss[p.1.toNat]).zip (sss[p.2.toNat]):=by
   unfold ahead rowI
   rw [List.getD_eq_getElem?_getD,List.getD_eq_getElem?_getD,List.getElem?_eq_getElem hx,List.getElem?_eq_getElem hy];rfl
  rw [ea] at q
  generalize rss[p.1.toNat]=row1 at hr1 w1 q
  generalize sss[p.2.toNat]=row2 at hr2 w2 q
  refine ⟨_,pss_one (ps_ret (pe_listzip K rfl rfl T.m_list rfl T.m_zip (pa_cons (pe_ix (ix_listK K) (pe_fldK K (pv 0) rfl) (pe_ix (ix_tupK K) (pv 2) (pe_int) (fun _ _=>rfl)) (fun _ _=>rfl)) (pa_cons (pe_ix (ix_listK K) (pe_fldK K (pv 1) rfl) (pe_ix (ix_tupK K) (pv 2) (pe_int) (fun _ _=>rfl)) (fun _ _=>rfl)) (pa_nil))))),?_⟩
  walk_at "w";refine ⟨_,rfl,p1,_,dx1,_,_,rfl,ho1,T.cl_House,T.na_House_ways,hfs_ways _ _ _,?_⟩
  walk_at "w";refine ⟨pa,_,0,_,rfl,rfl,SqT.of hpa,atI_nat (j:=0) rfl,?_⟩
  refine r_ixL (SqL.of hh1.ways.top) (atI_get' x0 e1') ?_
  walk_at "w";refine ⟨_,rfl,p2,_,dx2,_,_,rfl,ho2,T.cl_House,T.na_House_ways,hfs_ways _ _ _,?_⟩
  walk_at "w";refine ⟨pa,_,1,_,rfl,rfl,SqT.of hpa,atI_nat (j:=1) rfl,?_⟩
  refine r_ixL (SqL.of hh2.ways.top) (atI_get' y0 e2') ?_
  walk_at "w";refine ⟨r1,r2,_,_,rfl,SqL.of hr1,SqL.of hr2,by rw [List.length_map,List.length_map];omega,by rw [List.length_map];omega,by rw [List.length_map];omega,fun l ts H2 s2 hl hl2 hlen nl nd fr et=>?_⟩
  refine q l ts H2 s2 hl hl2 (by rw [hlen,List.length_map,List.length_zip];omega) fr fun j t g h1 h2=>?_
  obtain ⟨g1,g2⟩:=List.getElem?_zip_eq_some.mp h2
  exact et j t _ _ h1 (by rw [List.getElem?_map,g1];rfl) (by rw [List.getElem?_map,g2];rfl)
theorem sc_numbers_of_pairs:FnScope ["one","other","numbers","pairs","at","pair"] ["one","other"] (defScope s_numbers_of_pairs):=⟨rfl,rfl,rfl,by decide +kernel,rfl,by decide +kernel,by decide +kernel⟩
theorem b_numbers_of_pairs (T:Txt K mg t):Binds K t.fd_numbers_of_pairs ["one","other"] []:=T.F_numbers_of_pairs.binds fun _ _ _ _ _ _ us hl=>by obtain ⟨_,_,rfl⟩:=len_2 hl;rfl
def numKV (L:List (Int×Int)) (k:Nat):List (List Key×V):=(L.zipIdx k).map fun e=>(kP e.1,.int ((e.2:Nat):Int))
theorem kP_inj {p q:Int×Int} (h:kP p=kP q):p=q:=by
 unfold kP at h
 simp only [List.cons.injEq,Sum.inl.injEq,and_true] at h
 exact Prod.ext h.1 h.2
theorem val_num (q:Int×Int):∀ (L:List (Int×Int)) (k:Nat),valV (numKV L k) (kP q)=if q∈L then some (.int ((k+L.idxOf q:Nat):Int)) else none
 | [],k=>by simp [numKV,valV_nil]
 | p :: r,k=>by
  have e:numKV (p :: r) k=(kP p,.int ((k:Nat):Int)) :: numKV r (k+1):=by simp [numKV,List.zipIdx_cons]
  rw [e]
  by_cases h:p=q
  ·subst h
   rw [valV_pos rfl,if_pos (by simp)]
   simp [List.idxOf_cons]
  ·rw [valV_neg (fun z=>h (kP_inj z)),val_num q r (k+1)]
   have hb:(p == q)=false:=beq_eq_false_iff_ne.mpr h
   by_cases hq:q∈r
   ·rw [if_pos hq,if_pos (by simp [hq]),List.idxOf_cons,hb]
    simp only [cond_false]
    congr 3;omega
   ·rw [if_neg hq,if_neg (by simp [hq,Ne.symm h])]
theorem num_snoc (L:List (Int×Int)) (q:Int×Int):numKV (L++[q]) 0=numKV L 0++[(kP q,.int (L.length:Nat))]:=by
 unfold numKV
 rw [List.zipIdx_append,List.map_append]
 simp
theorem numKV_len (L:List (Int×Int)) (k:Nat):(numKV L k).length=L.length:=by simp [numKV]
structure NP (H H':Hp) (nd pl:Addr) (L:List (Int×Int)) (ts:List Addr):Prop where
 same:Same H H'
 dict:H' nd=some (.dT (numKV L 0))
 list:H' pl=some (.lst (ts.map V.ref))
 len:ts.length=L.length
 tup:∀ (i:Nat) t p,ts[i]?=some t→L[i]?=some p→H' t=some (.tup [.int p.1,.int p.2])
 n1:H nd=none
 n2:H pl=none
 ne:nd≠pl
theorem NP.tick {H H' H2:Hp} {nd pl:Addr} {L:List (Int×Int)} {ts:List Addr} (B:NP H H' nd pl L ts) (s:Same H' H2):NP H H2 nd pl L ts :=
 ⟨B.same.trans s,s _ _ B.dict,s _ _ B.list,B.len,fun i t p h1 h2=>s _ _ (B.tup i t p h1 h2),B.n1,B.n2,B.ne⟩
theorem NP.out {H H':Hp} {nd pl:Addr} {L:List (Int×Int)} {ts:List Addr} (B:NP H H' nd pl L ts) {t:Addr} {xs:List V} (h:H' t=some (.tup xs)):t≠nd∧t≠pl :=
 ⟨(fun z=>by rw [z,B.dict] at h;cases h),(fun z=>by rw [z,B.list] at h;cases h)⟩
theorem NP.add {H H':Hp} {nd pl:Addr} {L:List (Int×Int)} {ts:List Addr} (B:NP H H' nd pl L ts) {t:Addr} {q:Int×Int} (ht:H' t=some (.tup [.int q.1,.int q.2])):NP H (upd (upd H' nd (.dT (numKV L 0++[(kP q,.int (L.length:Nat))]))) pl (.lst (ts.map V.ref++[.ref t]))) nd pl (L++[q]) (ts++[t]):=by
 have k:∀ b o,b≠nd→b≠pl→H' b=some o→(upd (upd H' nd (.dT (numKV L 0++[(kP q,.int (L.length:Nat))]))) pl (.lst (ts.map V.ref++[.ref t]))) b=some o:=fun b o h1 h2 e=>by rw [upd_ne h2,upd_ne h1];exact e
 refine ⟨fun b o e=>k b o (fun z=>by rw [z,B.n1] at e;cases e) (fun z=>by rw [z,B.n2] at e;cases e) (B.same b o e),by rw [upd_ne B.ne,upd_same,num_snoc],by rw [upd_same,List.map_append];rfl,by simp [B.len],fun i u p h1 h2=>?_,B.n1,B.n2,B.ne⟩
 by_cases hi:i < L.length
 ·rw [List.getElem?_append_left (by rw [B.len];exact hi)] at h1
  rw [List.getElem?_append_left hi] at h2
  have:=B.tup i u p h1 h2
  exact k _ _ (B.out this).1 (B.out this).2 this
 ·have hl:=(List.getElem?_eq_some_iff.mp h2).1
  rw [List.length_append,List.length_singleton] at hl
  have hi2:i=L.length:=by omega
  subst hi2
  rw [← B.len,List.getElem?_append_right (Nat.le_refl _),Nat.sub_self] at h1
  rw [List.getElem?_append_right (Nat.le_refl _),Nat.sub_self] at h2
  cases h1;cases h2
  exact k _ _ (B.out ht).1 (B.out ht).2 ht
def sp_numbers_of_pairs (K:PySem.W.Frag) (C CT:Addr):Sp:=fun vs H Q E=>∃ (p1 p2:Addr) (d:Int) (rss sss:List (List Int)) (ls ls2:List Bool),vs=[.ref p1,.ref p2]∧Two C H p1 p2 d rss sss ls ls2 ∧
 ((finP rss sss).length≤400→∀ H' nd,Same H H'→H nd=none→H' nd=some (.dT (numKV (finP rss sss) 0))→Q (.ref nd) H') ∧
 (400 < (finP rss sss).length→∀ H',Same H H'→E (.ref CT) none H')
theorem ok_numbers_of_pairs (T:Txt K mg t):FnOk P w K mg base (CXr P w) 2 t.f_numbers_of_pairs t.fd_numbers_of_pairs ["one","other"] (sp_numbers_of_pairs K t.C_House t.C_TooGreat):=by
 refine T.F_numbers_of_pairs.okX sc_numbers_of_pairs (fun vs H Q E h=>?_) (fun cdv A outer s H vs Q E hr h=>?_)
 ·obtain ⟨p1,p2,d,rss,sss,ls,ls2,rfl,_⟩:=h
  rfl
 ·obtain ⟨p1,p2,d,rss,sss,ls,ls2,rfl,tw,q,qe⟩:=h
  have W1:=tw.V1.toWays
  have W2:=tw.V2.toWays
  have r1:0 < rss.length:=by have:=tw.V1.r1;omega
  have r2:0 < sss.length:=by have:=tw.V2.r1;omega
  refine exO (pssO_consT (i:=2) hr.units1 sc_numbers_of_pairs.nd rfl (Or.inl rfl) (pe_tup (pa_cons (pe_int) (pa_cons (pe_int) (pa_nil)))) (pe_int)
 (pss_cons (ps_set (i:=3) sc_numbers_of_pairs.nd rfl (Or.inl rfl) (pe_lst (pa_cons (pe_tup (pa_cons (pe_int) (pa_cons (pe_int) (pa_nil)))) (pa_nil))))
 (pss_cons (ps_set (i:=4) sc_numbers_of_pairs.nd rfl (Or.inl rfl) (pe_int))
 (pss_cons (ps_while xp_def.own (pt_cmpR op_lt (pv 4) (pe_callB (call_len_seqK K) rfl T.m_len PySem.boot_len (pa_cons (pv 3) (pa_nil))) (nomark _))
 (pss_cons (ps_for xp_def.own rfl (pi_listK K (pe_call (ok_pairs_ahead T) (hr.mono (by decide)) rfl T.mg_pairs_ahead T.F_pairs_ahead.kp (b_pairs_ahead T) .nil pass0 (pa_cons (pv 0) (pa_cons (pv 1) (pa_cons (pe_ix (ix_listK K) (pv 3) (pv 4) (fun _ _=>rfl)) (pa_nil)))))) (pg_name (i:=5) sc_numbers_of_pairs.nd rfl (Or.inl rfl))
 (pss_one (ps_join (ps_if (pt_cmp (pc_dnotin hr.units1 (pv 5) (pv 2)))
 (pss_cons (ps_dput hr.units1 (pv 2) (pv 5) (pe_callB (call_len_seqK K) rfl T.m_len PySem.boot_len (pa_cons (pv 3) (pa_nil))) rfl)
 (pss_one (ps_expr (pe_bmK K PySem.F.plainAttrs_list PySem.F.slot_list_append PySem.F.type_list_append mt_append (pv 3) (pa_cons (pv 5) (pa_nil))))))
 (pss_nil)))))
 (pss_cons (ps_if (pt_cmpR op_gt (pe_callB (call_len_seqK K) rfl T.m_len PySem.boot_len (pa_cons (pv 3) (pa_nil))) (pe_glob (v:=.int 400) rfl T.mg_MOST_ROOMS.choose_spec ⟨_,rfl⟩) (nomark _))
 (pss_one (ps_raise xm_def rfl rfl T.mg_TooGreat T.ex_TooGreat.toExcCls (pa_cons (pe_str) (pa_nil))))
 (pss_nil))
 (pss_one (ps_aug (i:=4) sc_numbers_of_pairs.nd rfl (Or.inl rfl) (pe_int) ip_add)))))
 (pss_one (ps_ret (pv 2))))))) ?_
  walk_at "w";intro nd hnd
  walk_at "w";refine ⟨by show 2≤sizeLine;decide,fun tp htp=>?_⟩
  walk_at "w";have n_mt:nd≠tp:=fun z=>by rw [← z,upd_same] at htp;cases htp
  have f_tp:H tp=none:=by rw [upd_ne (Ne.symm n_mt)] at htp;exact htp
  refine ⟨tp,[.inl 0,.inl 0],rfl,upd_same,by rw [upd_ne n_mt];exact upd_same,?_⟩
  have sA:Same H (upd (upd (upd H nd (.dT [])) tp (.tup [.int 0,.int 0])) nd (.dT [([.inl 0,.inl 0],.int 0)])):=((Same.upd_new hnd).upd_fresh f_tp).upd_fresh hnd
  have dA:(upd (upd (upd H nd (.dT [])) tp (.tup [.int 0,.int 0])) nd (.dT [([.inl 0,.inl 0],.int 0)])) nd=some (.dT (numKV [(0,0)] 0)):=upd_same
  generalize upd (upd (upd H nd (.dT [])) tp (.tup [.int 0,.int 0])) nd (.dT [([.inl 0,.inl 0],.int 0)])=HA at sA dA ⊢
  clear htp n_mt f_tp
  walk_at "w";refine ⟨by show 2≤sizeLine;decide,fun t0 ht0=>?_⟩
  have sB:Same HA (upd HA t0 (.tup [.int 0,.int 0])):=Same.upd_new ht0
  have t0B:(upd HA t0 (.tup [.int 0,.int 0])) t0=some (.tup [.int 0,.int 0]):=upd_same
  generalize upd HA t0 (.tup [.int 0,.int 0])=HB at sB t0B ⊢
  walk_at "w";refine ⟨by show 1≤sizeLine;decide,fun pl hpl=>?_⟩
  have sC:Same HB (upd HB pl (.lst [.ref t0])):=Same.upd_new hpl
  have plC:(upd HB pl (.lst [.ref t0])) pl=some (.lst ([t0].map V.ref)):=upd_same
  generalize upd HB pl (.lst [.ref t0])=HC at sC plC ⊢
  have B0:NP H HC nd pl (runP rss sss 0) [t0]:=⟨sA.trans (sB.trans sC),sC _ _ (sB _ _ dA),plC,rfl,fun i t p h1 h2=>by
   cases i with
   | zero=>cases h1;cases h2;exact sC _ _ t0B
   | succ i=>simp at h1,hnd,(sA.trans sB).free hpl,fun z=>by rw [← z,sB _ _ dA] at hpl;cases hpl⟩
  clear sA dA sB t0B sC plC hnd hpl ht0
  walk_at "w";refine ⟨fun m σ H'=>∃ (i:Nat) (ts:List Addr) (k5:Option V),m=401 - i∧i≤(runP rss sss i).length∧(runP rss sss i).length≤400∧NP H H' nd pl (runP rss sss i) ts∧σ=[some (.ref p1),some (.ref p2),some (.ref nd),some (.ref pl),some (.int (i:Int)),k5],⟨_,0,[t0],_,rfl,Nat.zero_le _,by simp [runP],B0,rfl⟩,?_⟩
  clear B0
  rintro m σ H1 ⟨i,ts,k5,rfl,hi1,hi4,B,rfl⟩
  walk_at "w";refine ⟨pl,_,rfl,.inl (SqL.of B.list),?_⟩
  rw [List.length_map,B.len]
  walk_at "w";refine r_ite (fun hc=>?_) (fun hc=>?_)
  ·have hc:i < (runP rss sss i).length:=by simpa using hc
   obtain ⟨p,hp⟩:∃ p,(runP rss sss i)[i]?=some p:=⟨_,List.getElem?_eq_getElem hc⟩
   obtain ⟨ti,hti⟩:∃ x,ts[i]?=some x:=⟨_,List.getElem?_eq_getElem (by rw [B.len];exact hc)⟩
   have hin:=runP_in W1 W2 r1 r2 i p (List.mem_of_getElem? hp)
   have hal:=ahead_len W1 W2 hin
   have hd6:=tw.V1.d6
   have enx:runP rss sss (i+1)=addAll (runP rss sss i) (ahead rss sss p):=by
    show turnP rss sss (runP rss sss i) i=_
    unfold turnP;rw [hp]
   refine ⟨fun σ' H'=>∃ (ts:List Addr) (k5:Option V),i+1≤(runP rss sss (i+1)).length∧(runP rss sss (i+1)).length≤400∧NP H H' nd pl (runP rss sss (i+1)) ts∧σ'=[some (.ref p1),some (.ref p2),some (.ref nd),some (.ref pl),some (.int ((i+1:Nat):Int)),k5],?_,?_⟩
   ·rintro σ' H' ⟨ts,k5,g1,g2,g3,rfl⟩
    exact ⟨401 - (i+1),by omega,i+1,ts,k5,rfl,g1,g2,g3,rfl⟩
   walk_at "w";refine r_ixL (SqL.of B.list) (atI_nat (j:=i) (by rw [List.getElem?_map,hti];rfl)) ?_
   walk_at "w";refine ⟨p1,p2,d,rss,sss,ls,ls2,ti,p,rfl,tw.same B.same,B.tup i ti p hti hp,hin,fun l us H2 s2 hl hl2 hul fru ut=>?_⟩
   refine ⟨l,rfl,⟨_,SqL.of hl2⟩,?_⟩
   have B2:=B.tick s2
   have nl:l≠nd∧l≠pl:=⟨(fun z=>by rw [z,B.dict] at hl;cases hl),(fun z=>by rw [z,B.list] at hl;cases hl)⟩
   refine for_list (xs:=us.map V.ref) (fun j σ H'=>∃ (ts:List Addr) (k5:Option V),NP H H' nd pl (addAll (runP rss sss i) ((ahead rss sss p).take j)) ts∧(∀ b o,b≠nd→b≠pl→H2 b=some o→H' b=some o)∧σ=[some (.ref p1),some (.ref p2),some (.ref nd),some (.ref pl),some (.int (i:Int)),k5]) ⟨ts,k5,B2,fun b o _ _ e=>e,rfl⟩ (fun j σ H' _ pp=>by obtain ⟨_,_,_,kk,_⟩:=pp;exact SqL.of (kk _ _ nl.1 nl.2 hl2)) (fun j x σ H3 hx pp=>?_) (fun σ H3 pp=>?_)
   ·obtain ⟨ts3,k5',B3,kk,rfl⟩:=pp
    have hx0:=ref_map_inv hx
    clear hx
    obtain ⟨u,rfl,hu⟩:=hx0
    have hju:j < us.length:=(List.getElem?_eq_some_iff.mp hu).1
    obtain ⟨g,hg⟩:∃ g,(ahead rss sss p)[j]?=some g:=⟨_,List.getElem?_eq_getElem (by rw [← hul];exact hju)⟩
    have hu2:=ut j u g hu hg
    have nu:=B2.out hu2
    have hu3:=kk _ _ nu.1 nu.2 hu2
    have hl3:(addAll (runP rss sss i) ((ahead rss sss p).take j)).length≤410:=by
     obtain ⟨r,hr⟩:=addAll_pre ((ahead rss sss p).take j) (runP rss sss i)
     have h1:(addAll (runP rss sss i) ((ahead rss sss p).take j)).length≤(runP rss sss i).length+((ahead rss sss p).take j).length:=addAll_len _ _
     rw [List.length_take] at h1
     omega
    rw [take_snocA hg,addAll_snoc]
    generalize addAll (runP rss sss i) ((ahead rss sss p).take j)=L3 at B3 hl3 ⊢
    have hvk:H3 u=some (.tup ((kP g).map kV)):=hu3
    have hv:=val_num g L3 0
    walk_at "w";refine r_join (fun σ' H'=>∃ (ts:List Addr) (k5:Option V),NP H H' nd pl (addP L3 g) ts∧(∀ b o,b≠nd→b≠pl→H2 b=some o→H' b=some o)∧σ'=[some (.ref p1),some (.ref p2),some (.ref nd),some (.ref pl),some (.int (i:Int)),k5]) ?_ (fun σ' H' z=>z)
    walk_at "w";refine ⟨nd,_,rfl,.inr ⟨_,_,u,.inl B3.dict,rfl,hvk,rfl⟩,?_⟩
    rw [hv]
    unfold addP
    by_cases hm:g∈L3
    ·rw [if_pos hm,if_pos hm]
     walk_at "w";refine r_iteN rfl ?_
     walk_at "w";exact ⟨ts3,_,B3,kk,rfl⟩
    ·rw [if_neg hm,if_neg hm]
     rw [if_neg hm] at hv
     walk_at "w";refine r_iteP rfl ?_
     walk_at "w";refine ⟨pl,_,rfl,.inl (SqL.of B3.list),?_⟩
     rw [List.length_map,B3.len]
     walk_at "w";refine ⟨nd,_,rfl,DPut.t B3.dict hvk (by rw [numKV_len];exact small1000 (by omega)),?_⟩
     rw [putK_new _ hv]
     walk_at "w";refine ⟨.inl ⟨rfl,_,SqL.of (by rw [upd_ne (Ne.symm B3.ne)];exact B3.list)⟩,?_⟩
     walk_at "w";refine ⟨pl,_,_,rfl,rfl,(by rw [upd_ne (Ne.symm B3.ne)];exact B3.list),small1000 (by rw [List.length_map,B3.len];omega),?_⟩
     exact ⟨ts3++[u],_,B3.add hu3,fun b o b1 b2 e=>by rw [upd_ne b2,upd_ne b1];exact kk b o b1 b2 e,rfl⟩
   ·obtain ⟨ts3,k5',B3,kk,rfl⟩:=pp
    rw [List.length_map,hul,List.take_length,← enx] at B3
    walk_at "w";refine ⟨pl,_,rfl,.inl (SqL.of B3.list),?_⟩
    rw [List.length_map,B3.len]
    obtain ⟨r,hr⟩:=finP_pre W1 W2 r1 r2 (i+1)
    obtain ⟨r',hr'⟩:=runP_le (rss:=rss) (sss:=sss) (Nat.le_succ i)
    have hge:(runP rss sss i).length≤(runP rss sss (i+1)).length:=by rw [hr',List.length_append];omega
    walk_at "w";refine r_ite (fun hbig=>?_) (fun hbig=>?_)
    ·have hbig:400 < (runP rss sss (i+1)).length:=by simp at hbig;omega
     walk_at "w";exact ⟨by show 1≤sizeLine;decide,qe (by rw [hr,List.length_append];omega) H3 B3.same⟩
    ·have hbig:(runP rss sss (i+1)).length≤400:=by simp at hbig;omega
     walk_at "w";refine ⟨_,rfl,?_⟩
     walk_at "w";refine ⟨_,_,rfl,rfl,?_⟩
     exact ⟨ts3,_,by omega,hbig,B3,rfl⟩
  ·have hc:(runP rss sss i).length≤i:=by simp at hc;omega
   have ef:=finP_of W1 W2 r1 r2 hc
   walk_at "w";rw [ef] at hi4 B
   exact q hi4 H1 nd B.same B.n1 B.dict
theorem sc_mixed:FnScope ["one","other","table","numbers","ways","lamps","pair"] ["one","other","table"] (defScope s_mixed):=⟨rfl,rfl,rfl,by decide +kernel,rfl,by decide +kernel,by decide +kernel⟩
theorem b_mixed (T:Txt K mg t):Binds K t.fd_mixed ["one","other","table"] []:=T.F_mixed.binds fun _ _ _ _ _ _ us hl=>by obtain ⟨_,_,_,rfl⟩:=len_3 hl;rfl
def sp_mixed (C CT:Addr):Sp:=fun vs H Q E=>∃ (p1 p2:Addr) (ta:V) (d:Int) (aw:Addr) (rs:List Addr) (rss:List (List Int)) (al:Addr) (ls:List Bool) (aw2:Addr) (rs2:List Addr) (sss:List (List Int)) (al2:Addr) (ls2:List Bool),vs=[.ref p1,.ref p2,ta]∧HouseAt C H p1 d aw rs rss al ls∧HouseAt C H p2 d aw2 rs2 sss al2 ls2∧Valid d rss ls∧Valid d sss ls2 ∧
 400 < (finP rss sss).length∧∀ H',Same H H'→E (.ref CT) none H'
theorem ok_mixed (T:Txt K mg t):FnOk P w K mg base (CXr P w) 5 t.f_mixed t.fd_mixed ["one","other","table"] (sp_mixed t.C_House t.C_TooGreat):=by
 refine T.F_mixed.okX sc_mixed (fun vs H Q E h=>?_) (fun cdv A outer s H vs Q E hr h=>?_)
 ·obtain ⟨p1,p2,ta,d,aw,rs,rss,al,ls,aw2,rs2,sss,al2,ls2,rfl,_⟩:=h
  rfl
 ·obtain ⟨p1,p2,ta,d,aw,rs,rss,al,ls,aw2,rs2,sss,al2,ls2,rfl,hh1,hh2,V1,V2,big,qe⟩:=h
  refine ⟨_,pss_cons (ps_expr (pe_call (ok_check_same_doors T) (hr.mono (by decide)) rfl T.mg_check_same_doors T.F_check_same_doors.kp (b_check_same_doors T) .nil xp_def.pass (pa_cons (pv 0) (pa_cons (pv 1) (pa_nil)))))
 (pss_cons (ps_set (i:=3) sc_mixed.nd rfl (Or.inr rfl) (pe_call (ok_numbers_of_pairs T) (hr.mono (by decide)) rfl T.mg_numbers_of_pairs T.F_numbers_of_pairs.kp (b_numbers_of_pairs T) .nil xp_def.pass (pa_cons (pv 0) (pa_cons (pv 1) (pa_nil)))))
 (pss_never)),?_⟩
  walk_at "w";refine ⟨p1,d,aw,rs,rss,al,ls,p2,d,aw2,rs2,sss,al2,ls2,rfl,hh1,hh2,fun e=>?_,fun e=>absurd rfl e⟩
  walk_at "w";exact ⟨p1,p2,d,rss,sss,ls,ls2,rfl,⟨⟨_,_,_,hh1⟩,⟨_,_,_,hh2⟩,V1,V2⟩,fun h=>by omega,fun _=>qe⟩
theorem sc_one_door_more:FnScope ["house","counts","further","row"] ["house","counts"] (defScope s_one_door_more):=⟨rfl,rfl,rfl,by decide +kernel,rfl,by decide +kernel,by decide +kernel⟩
theorem b_one_door_more (T:Txt K mg t):Binds K t.fd_one_door_more ["house","counts"] []:=T.F_one_door_more.binds fun _ _ _ _ _ _ us hl=>by obtain ⟨_,_,rfl⟩:=len_2 hl;rfl
def oneMore (rss:List (List Int)) (cs:List Int):List Int:=rss.map fun row=>(row.map fun way=>cs.getD way.toNat 0).sum
def sp_one_door_more (K:PySem.W.Frag) (C:Addr):Sp:=fun vs H Q _=>∃ (p:Addr) (d:Int) (aw:Addr) (rs:List Addr) (rss:List (List Int)) (al:Addr) (ls:List Bool) (b:Addr) (cs:List Int),vs=[.ref p,.ref b]∧HouseAt C H p d aw rs rss al ls∧Ways d rss∧d≤6∧rss.length≤900∧H b=some (.lst (cs.map V.int))∧cs.length=rss.length ∧
 ∀ H' l,Same H H'→H' l=some (.lst ((oneMore rss cs).map V.int))→H l=none→Q (.ref l) H'
theorem ok_one_door_more (T:Txt K mg t):FnOk P w K mg base CX0 1 t.f_one_door_more t.fd_one_door_more ["house","counts"] (sp_one_door_more K t.C_House):=by
 refine T.F_one_door_more.ok sc_one_door_more (fun vs H Q E h=>?_) (fun cdv A outer s H vs Q E hr h=>?_)
 ·obtain ⟨p,d,aw,rs,rss,al,ls,b,cs,rfl,_⟩:=h
  rfl
 ·obtain ⟨p,d,aw,rs,rss,al,ls,b,cs,rfl,hh,W,hd6,h900,hb,hcl,q⟩:=h
  obtain ⟨dx,ho⟩:=hh.ob
  refine ⟨_,pss_cons (ps_set (i:=2) sc_one_door_more.nd rfl (Or.inl rfl) (pe_lst (pa_nil)))
 (pss_cons (ps_for PassesOwn.never rfl (pi_listK K (pe_fldK K (pv 0) rfl)) (pg_name (i:=3) sc_one_door_more.nd rfl (Or.inl rfl))
 (pss_one (ps_expr (pe_bmK K PySem.F.plainAttrs_list PySem.F.slot_list_append PySem.F.type_list_append mt_append (pv 2) (pa_cons (pe_callB (call_sumIK K rfl) rfl T.m_sum boot_sum (pa_cons (pe_comp (N:=["house","counts","further","row"]) (sc0:=(defScope s_one_door_more)) (N':=["way","counts"]) (caps:=[none,some 1]) (by exact ⟨rfl,by decide +kernel,by decide +kernel,by decide +kernel,rfl,rfl,by decide +kernel⟩) rfl (pi_listK K (pv 3)) (fun _ _ _ _ _ _=>pg_name (i:=0) (show List.Nodup (["way","counts"]:List Str) from by decide +kernel) rfl (Or.inl rfl)) (fun _ _ _ _ _ _=>pe_ix (ix_listK K) (pv 1) (pv 0) (fun _ _=>rfl))) (pa_nil))) (pa_nil))))))
 (pss_one (ps_ret (pv 2)))),?_⟩
  walk_at "w";refine ⟨Nat.zero_le _,fun l hl=>?_⟩
  have s1:Same H (upd H l (.lst [])):=Same.upd_new hl
  have l1:(upd H l (.lst [])) l=some (.lst []):=upd_same
  generalize upd H l (.lst [])=H1 at s1 l1 ⊢
  walk_at "w";refine ⟨_,rfl,p,_,dx,_,_,rfl,s1 _ _ ho,T.cl_House,T.na_House_ways,hfs_ways _ _ _,?_⟩
  refine ⟨aw,rfl,⟨_,SqL.of (s1 _ _ hh.ways.top)⟩,?_⟩
  refine for_list (xs:=rs.map V.ref) (fun i σ H'=>Same H H'∧H' l=some (.lst ((oneMore (rss.take i) cs).map V.int))∧∃ k3,σ=[some (.ref p),some (.ref b),some (.ref l),k3]) ⟨s1,l1,none,rfl⟩ (fun i σ H' _ pp=>SqL.of (pp.1 _ _ hh.ways.top)) (fun i x σ H2 hx pp=>?_) (fun σ H2 pp=>?_)
  ·obtain ⟨s2,l2,k3,rfl⟩:=pp
   obtain ⟨r,rfl,hr'⟩:=ref_map_inv hx
   have hi:i < rss.length:=by rw [← hh.ways.len];exact (List.getElem?_eq_some_iff.mp hr').1
   have hei:=List.getElem?_eq_getElem hi
   have hrow:=s2 _ _ (hh.ways.row i r rss[i] hr' hei)
   obtain ⟨hrl,hrx⟩:=W.row rss[i] (List.getElem_mem hi)
   walk_at "w";refine ⟨.inl ⟨rfl,_,SqL.of l2⟩,?_⟩
   walk_at "w";refine ⟨r,rfl,⟨_,SqL.of hrow⟩,?_⟩
   refine comp_list (xs:=rss[i].map V.int) (fun acc j ys H3=>ys=((rss[i].take j).map fun way=>cs.getD way.toNat 0).map V.int∧H3=upd H2 acc (.lst ys)) (fun acc hacc=>⟨rfl,rfl⟩) (fun acc j ys H3 hacc _ pp=>by rw [pp.2];exact SqL.of (by rw [upd_ne (ne_of_none hrow hacc)];exact hrow)) (fun acc j x ys H3 hacc hx pp=>?_) (fun acc ys H3 hacc pp=>?_)
   ·obtain ⟨rfl,rfl⟩:=pp
    have hx0:=int_map_inv hx
    clear hx
    obtain ⟨x,rfl,hx⟩:=hx0
    obtain ⟨x0,x1⟩:=hrx x (List.mem_of_getElem? hx)
    have hj:j < rss[i].length:=(List.getElem?_eq_some_iff.mp hx).1
    have hxc:x.toNat < cs.length:=by omega
    have hb2:(upd H2 acc (.lst (((rss[i].take j).map fun way=>cs.getD way.toNat 0).map V.int))) b=some (.lst (cs.map V.int)):=by
     have hb':=s2 _ _ hb
     rw [upd_ne (ne_of_none hb' hacc)];exact hb'
    walk_at "w";refine ⟨Wk.set rfl,?_⟩
    walk_at "w";refine r_ixL (SqL.of hb2) (atI_get' x0 (int_map_get (List.getElem?_eq_getElem hxc))) ?_
    refine ⟨upd_same,small1000 (by simp;omega),?_,?_⟩
    ·rw [List.take_add_one,hx];simp [List.getD_eq_getElem?_getD,List.getElem?_eq_getElem hxc]
    ·rw [upd_upd]
   ·obtain ⟨rfl,rfl⟩:=pp
    rw [List.length_map,List.take_length]
    have s3:Same H2 (upd H2 acc (.lst ((rss[i].map fun way=>cs.getD way.toNat 0).map V.int))):=Same.upd_new hacc
    have acv:(upd H2 acc (.lst ((rss[i].map fun way=>cs.getD way.toNat 0).map V.int))) acc=some (.lst ((rss[i].map fun way=>cs.getD way.toNat 0).map V.int)):=upd_same
    generalize upd H2 acc (.lst ((rss[i].map fun way=>cs.getD way.toNat 0).map V.int))=H4 at s3 acv ⊢
    walk_at "w";refine ⟨acc,_,rfl,SqL.of acv,?_⟩
    walk_at "w";refine ⟨l,_,_,rfl,rfl,s3 _ _ l2,small1000 (by unfold oneMore;simp;omega),?_⟩
    refine ⟨(s2.trans s3).upd_fresh hl,?_,_,rfl⟩
    rw [upd_same]
    unfold oneMore
    rw [List.take_add_one,hei]
    simp only [Option.toList_some,List.map_append,List.map_cons,List.map_nil]
  ·obtain ⟨s2,l2,k3,rfl⟩:=pp
   walk_at "w";rw [List.length_map,hh.ways.len,List.take_length] at l2
   exact q H2 l s2 l2 hl
theorem sc_counts_to:FnScope ["house","size","rows"] ["house","size"] (defScope s_counts_to):=⟨rfl,rfl,rfl,by decide +kernel,rfl,by decide +kernel,by decide +kernel⟩
theorem b_counts_to (T:Txt K mg t):Binds K t.fd_counts_to ["house","size"] []:=T.F_counts_to.binds fun _ _ _ _ _ _ us hl=>by obtain ⟨_,_,rfl⟩:=len_2 hl;rfl
theorem Grown.snoc2 {H H' H2:Hp} {l p:Addr} {rs:List Addr} {f:Nat→List Int} (G:Grown H H' l rs f) (s:Same H' H2) (hp:H' p=none) (hv:H2 p=some (.lst ((f rs.length).map V.int))) :
  Grown H (upd H2 l (.lst (rs.map V.ref++[.ref p]))) l (rs++[p]) f:=by
 have np:=G.fresh hp
 have hpl:p≠l:=fun z=>np (by rw [z];exact List.mem_cons_self)
 have nl:l∉rs:=(List.nodup_cons.mp G.nd).1
 refine ⟨by rw [upd_same,List.map_append];rfl,fun j b hj=>?_,?_,fun b hb=>?_,(G.same.trans s).upd_fresh (G.new l List.mem_cons_self)⟩
 ·rcases getElem?_snoc hj with ⟨hl,h⟩ | ⟨hl,rfl⟩
  ·have hbl:b≠l:=fun z=>nl (by rw [← z];exact List.mem_of_getElem? h)
   rw [upd_ne hbl];exact s _ _ (G.row j b h)
  ·subst hl
   rw [upd_ne hpl];exact hv
 ·have:(l :: (rs++[p])).Nodup:=by
   rw [← List.cons_append]
   exact nd_snoc G.nd np
  exact this
 ·have hb:b∈(l :: rs)++[p]:=hb
  rcases List.mem_append.mp hb with hb | hb
  ·exact G.new b hb
  ·rw [List.mem_singleton.mp hb];exact G.same.free hp
theorem cnt_len (rss:List (List Int)) (ls:List Bool) (hl:ls.length=rss.length):∀ n,(cnt rss ls n).length=rss.length
 | 0=>by show (ls.map _).length=_;rw [List.length_map,hl]
 | n+1=>by show (rss.map _).length=_;rw [List.length_map]
theorem cnt_get (rss:List (List Int)) (ls:List Bool) (hl:ls.length=rss.length) (n:Nat) {r:Int} (h1:r.toNat < rss.length):(cnt rss ls n)[r.toNat]?=some (cntAt rss ls n r):=by
 have h:r.toNat < (cnt rss ls n).length:=by rw [cnt_len rss ls hl];exact h1
 unfold cntAt
 rw [List.getD_eq_getElem?_getD,List.getElem?_eq_getElem h,Option.getD_some]
theorem Grown.get {H H':Hp} {l:Addr} {rs:List Addr} {f:Nat→List Int} (G:Grown H H' l rs f) {j:Nat} (hj:j < rs.length):∃ b,(rs.map V.ref)[j]?=some (.ref b)∧H' b=some (.lst ((f j).map V.int)) :=
 ⟨rs[j],by rw [List.getElem?_map,List.getElem?_eq_getElem hj];rfl,G.row j _ (List.getElem?_eq_getElem hj)⟩
def sp_counts_to (C:Addr):Sp:=fun vs H Q _=>∃ (p:Addr) (d:Int) (aw:Addr) (rs:List Addr) (rss:List (List Int)) (al:Addr) (ls:List Bool) (size:Int),vs=[.ref p,.int size]∧HouseAt C H p d aw rs rss al ls∧Ways d rss∧d≤6∧rss.length≤900∧ls.length=rss.length∧0≤size∧size≤900 ∧
 ∀ H' l rs',Grown H H' l rs' (cnt rss ls)→rs'.length=size.toNat+1→Q (.ref l) H'
theorem ok_counts_to (T:Txt K mg t):FnOk P w K mg base CX0 2 t.f_counts_to t.fd_counts_to ["house","size"] (sp_counts_to t.C_House):=by
 refine T.F_counts_to.ok sc_counts_to (fun vs H Q E h=>?_) (fun cdv A outer s H vs Q E hr h=>?_)
 ·obtain ⟨p,d,aw,rs,rss,al,ls,size,rfl,_⟩:=h
  rfl
 ·obtain ⟨p,d,aw,rs,rss,al,ls,size,rfl,hh,W,hd6,h900,hll,s0,s9,q⟩:=h
  obtain ⟨dx,ho⟩:=hh.ob
  refine ⟨_,pss_cons (ps_set (i:=2) sc_counts_to.nd rfl (Or.inl rfl) (pe_lst (pa_cons (pe_comp (N:=["house","size","rows"]) (sc0:=(defScope s_counts_to)) (N':=["lit"]) (caps:=[none]) (by exact ⟨rfl,by decide +kernel,by decide +kernel,by decide +kernel,rfl,rfl,by decide +kernel⟩) rfl (pi_listK K (pe_fldK K (pv 0) rfl)) (fun _ _ _ _ _ _=>pg_name (i:=0) (show List.Nodup (["lit"]:List Str) from by decide +kernel) rfl (Or.inl rfl)) (fun _ _ _ _ _ _=>pe_ifExp (pt_val (pv 0)) (pe_int) (pe_int))) (pa_nil))))
 (pss_cons (ps_while PassesOwn.never (pt_cmpR op_le (pe_callB (call_len_seqK K) rfl T.m_len PySem.boot_len (pa_cons (pv 2) (pa_nil))) (pv 1) (nomark _))
 (pss_one (ps_expr (pe_bmK K PySem.F.plainAttrs_list PySem.F.slot_list_append PySem.F.type_list_append mt_append (pv 2) (pa_cons (pe_call (ok_one_door_more T) (hr.mono (by decide)) rfl T.mg_one_door_more T.F_one_door_more.kp (b_one_door_more T) .nil pass0 (pa_cons (pv 0) (pa_cons (pe_ix (ix_listK K) (pv 2) (pe_un un_neg (pe_int)) (fun _ _=>rfl)) (pa_nil)))) (pa_nil))))))
 (pss_one (ps_ret (pv 2)))),?_⟩
  walk_at "w";refine ⟨_,rfl,p,_,dx,_,_,rfl,ho,T.cl_House,T.na_House_lamps,hfs_lamps _ _ _,?_⟩
  refine ⟨al,rfl,⟨_,SqL.of hh.lamps⟩,?_⟩
  refine comp_list (xs:=ls.map V.bl) (fun acc j ys H3=>ys=((ls.take j).map fun b=>if b=true then (1:Int) else 0).map V.int∧H3=upd H acc (.lst ys)) (fun acc hacc=>⟨rfl,rfl⟩) (fun acc j ys H3 hacc _ pp=>by rw [pp.2];exact SqL.of (by rw [upd_ne (ne_of_none hh.lamps hacc)];exact hh.lamps)) (fun acc j x ys H3 hacc hx pp=>?_) (fun acc ys H3 hacc pp=>?_)
  ·obtain ⟨rfl,rfl⟩:=pp
   have hx0:=bl_map_inv hx
   clear hx
   obtain ⟨x,rfl,hx⟩:=hx0
   have hj:j < ls.length:=(List.getElem?_eq_some_iff.mp hx).1
   walk_at "w";refine ⟨Wk.set rfl,?_⟩
   walk_at "w";refine r_ite (fun hc=>?_) (fun hc=>?_)
   ·walk_at "w";refine ⟨upd_same,small1000 (by simp;omega),?_,?_⟩
    ·rw [List.take_add_one,hx];simp [hc]
    ·rw [upd_upd]
   ·walk_at "w";refine ⟨upd_same,small1000 (by simp;omega),?_,?_⟩
    ·rw [List.take_add_one,hx];simp [hc]
    ·rw [upd_upd]
  ·obtain ⟨rfl,rfl⟩:=pp
   rw [List.length_map,List.take_length]
   have s1:Same H (upd H acc (.lst ((ls.map fun b=>if b=true then (1:Int) else 0).map V.int))):=Same.upd_new hacc
   have a1:(upd H acc (.lst ((ls.map fun b=>if b=true then (1:Int) else 0).map V.int))) acc=some (.lst ((cnt rss ls 0).map V.int)):=upd_same
   generalize upd H acc (.lst ((ls.map fun b=>if b=true then (1:Int) else 0).map V.int))=H1 at s1 a1 ⊢
   walk_at "w";refine ⟨by show 1≤sizeLine;decide,fun l hl=>?_⟩
   have hal:acc≠l:=ne_of_none a1 hl
   have G0:Grown H (upd H1 l (.lst [.ref acc])) l [acc] (cnt rss ls):=by
    refine ⟨upd_same,fun j b hj=>?_,by simp [Ne.symm hal],fun b hb=>?_,s1.trans (Same.upd_new hl)⟩
    ·have hj0:j=0:=by have:=(List.getElem?_eq_some_iff.mp hj).1;simpa using this
     subst hj0
     have:b=acc:=by simpa using hj.symm
     subst this
     rw [upd_ne hal];exact a1
    ·have hb:b=l∨b=acc:=by simpa using hb
     rcases hb with rfl | rfl
     ·exact s1.free hl
     ·exact hacc
   generalize upd H1 l (.lst [.ref acc])=H2 at G0 ⊢
   walk_at "w";refine ⟨fun m σ H'=>∃ rs',m=size.toNat+1 - rs'.length∧1≤rs'.length∧rs'.length≤size.toNat+1∧Grown H H' l rs' (cnt rss ls)∧σ=[some (.ref p),some (.int size),some (.ref l)],⟨_,[acc],rfl,Nat.le_refl _,by simp,G0,rfl⟩,?_⟩
   rintro m σ H3 ⟨rs',rfl,h1,h2,G,rfl⟩
   walk_at "w";refine ⟨l,_,rfl,.inl (SqL.of G.top),?_⟩
   rw [List.length_map]
   walk_at "w";refine r_ite (fun hc=>?_) (fun hc=>?_)
   ·have hc:(rs'.length:Int)≤size:=of_decide_eq_true hc
    refine ⟨fun σ' H'=>∃ pq,Grown H H' l (rs'++[pq]) (cnt rss ls)∧σ'=[some (.ref p),some (.int size),some (.ref l)],fun σ' H' ⟨pq,g,e⟩=>⟨size.toNat+1 - (rs'++[pq]).length,by simp;omega,rs'++[pq],rfl,by simp,by simp;omega,g,e⟩,?_⟩
    obtain ⟨lastA,hlast⟩:∃ x,rs'[rs'.length - 1]?=some x:=⟨_,List.getElem?_eq_getElem (by omega)⟩
    have hsplit:rs'.map V.ref=(rs'.take (rs'.length - 1)).map V.ref++[V.ref lastA]:=by
     have e:rs'=rs'.take (rs'.length - 1)++[lastA]:=by
      have h3:=take_snocA hlast
      rw [← h3,show rs'.length - 1+1=rs'.length by omega,List.take_length]
     rw [← List.map_singleton,← List.map_append,← e]
    have hlv:=G.row _ _ hlast
    walk_at "w";refine ⟨.inl ⟨rfl,_,SqL.of G.top⟩,?_⟩
    walk_at "w";refine r_ixL (SqL.of G.top) (by rw [hsplit];exact atI_last _ _) ?_
    walk_at "w";refine ⟨p,d,aw,rs,rss,al,ls,lastA,cnt rss ls (rs'.length - 1),rfl,hh.same G.same,W,hd6,h900,hlv,cnt_len rss ls hll _,fun H4 pq s4 pv pn=>?_⟩
    walk_at "w";refine ⟨l,_,_,rfl,rfl,s4 _ _ G.top,small1000 (by rw [List.length_map];omega),?_⟩
    refine ⟨pq,G.snoc2 s4 pn ?_,rfl⟩
    rw [pv,show rs'.length=rs'.length - 1+1 by omega];rfl
   ·have hc:¬ (rs'.length:Int)≤size:=of_decide_eq_false hc
    walk_at "w";exact q H3 l rs' G (by omega)
theorem sc_word_at:FnScope ["house","size","at","rows","word","room","left","counts","door"] ["house","size","at"] (defScope s_word_at):=⟨rfl,rfl,rfl,by decide +kernel,rfl,by decide +kernel,by decide +kernel⟩
theorem b_word_at (T:Txt K mg t):Binds K t.fd_word_at ["house","size","at"] []:=T.F_word_at.binds fun _ _ _ _ _ _ us hl=>by obtain ⟨_,_,_,rfl⟩:=len_3 hl;rfl
def sp_word_at (C CN:Addr):Sp:=fun vs H Q E=>∃ (p:Addr) (d:Int) (aw:Addr) (rs:List Addr) (rss:List (List Int)) (al:Addr) (ls:List Bool) (size at':Int),vs=[.ref p,.int size,.int at']∧HouseAt C H p d aw rs rss al ls∧Ways d rss∧d≤6∧0 < rss.length∧rss.length≤900∧ls.length=rss.length∧0≤size∧size≤900 ∧
 ¬ (0≤at'∧at' < cntAt rss ls size.toNat 0)∧∀ H',Same H H'→E (.ref CN) none H'
theorem ok_word_at (T:Txt K mg t):FnOk P w K mg base (CXr P w) 3 t.f_word_at t.fd_word_at ["house","size","at"] (sp_word_at t.C_House t.C_NoSuch):=by
 refine T.F_word_at.okX sc_word_at (fun vs H Q E h=>?_) (fun cdv A outer s H vs Q E hr h=>?_)
 ·obtain ⟨p,d,aw,rs,rss,al,ls,size,at',rfl,_⟩:=h
  rfl
 ·obtain ⟨p,d,aw,rs,rss,al,ls,size,at',rfl,hh,W,hd6,h0,h900,hll,z0,z9,no,qe⟩:=h
  obtain ⟨dx,ho⟩:=hh.ob
  obtain ⟨n,rfl⟩:∃ n:Nat,size=(n:Int):=⟨size.toNat,by omega⟩
  rw [Int.toNat_natCast] at no
  refine ⟨_,pss_cons (ps_set (i:=3) sc_word_at.nd rfl (Or.inl rfl) (pe_call (ok_counts_to T) (hr.mono (by decide)) rfl T.mg_counts_to T.F_counts_to.kp (b_counts_to T) .nil pass0 (pa_cons (pv 0) (pa_cons (pv 1) (pa_nil)))))
 (pss_cons (ps_if (PW.pt (pw_or (pt_cmpR op_lt (pv 1) (pe_int) (nomark _)) (pw_or1 (pt_not (pt_chain op_le op_lt (pe_int) (pv 2) (pe_ix (ix_listK K) (pe_ix (ix_listK K) (pv 3) (pv 1) (fun _ _=>rfl)) (pe_int) (fun _ _=>rfl)))))))
 (pss_one (ps_raise xm_def rfl rfl T.mg_NoSuch T.ex_NoSuch.toExcCls (pa_cons (pe_joined (pj_str (pj_int (pv 1) (pj_str (pj_nil))))) (pa_nil))))
 (pss_nil))
 (pss_never)),?_⟩
  walk_at "w";refine ⟨p,d,aw,rs,rss,al,ls,_,rfl,hh,W,hd6,h900,hll,z0,z9,fun H1 l rs' G hrl=>?_⟩
  rw [Int.toNat_natCast] at hrl
  obtain ⟨b,hb1,hb2⟩:=G.get (j:=n) (by omega)
  walk_at "w";refine r_iteN (by simp) ?_
  walk_at "w";refine r_ite (fun t0=>?_) (fun t0=>?_)
  rotate_left
  ·walk_at "w";refine r_iteP rfl ?_
   walk_at "w";refine ⟨_,rfl,small_log (by omega) (by omega),?_⟩
   walk_at "w";exact fun _=>⟨show 1≤sizeLine by decide,qe _ G.same⟩
  have t0:=of_decide_eq_true t0
  walk_at "w";refine r_ixL (SqL.of G.top) (atI_nat (j:=n) hb1) ?_
  walk_at "w";refine r_ixL (SqL.of hb2) (atI_get' (Int.le_refl 0) (int_map_get (cnt_get rss ls hll _ (r:=0) h0))) ?_
  walk_at "w";refine r_ite (fun t1=>?_) (fun t1=>?_)
  ·walk_at "w";refine ⟨_,rfl,small_log (by omega) (by omega),?_⟩
   walk_at "w";exact fun _=>⟨show 1≤sizeLine by decide,qe _ G.same⟩
  have t1:at' < cntAt rss ls n 0:=by simpa using t1
  exact absurd ⟨t0,t1⟩ no
theorem sc_Learner_add_head:FnScope ["self","head","door"] ["self","head"] (defScope s_Learner_add_head):=⟨rfl,rfl,rfl,by decide +kernel,rfl,by decide +kernel,by decide +kernel⟩
theorem b_Learner_add_head (T:Txt K mg t):Binds K t.fd_Learner_add_head ["self","head"] []:=T.F_Learner_add_head.binds fun _ _ _ _ _ _ us hl=>by obtain ⟨_,_,rfl⟩:=len_2 hl;rfl
structure LStepA (p a:Addr) (L L':LA) (H H':Hp):Prop where
 kp:∀ b o,b∉mutL p L→H b=some o→H' b=some o
 own:∀ b∈ownL p L',b∈ownL p L∨b=a∨H b=none
 mu:∀ b∈mutL p L',b∈mutL p L∨H b=none
def sp_Learner_add_head (C CB:Addr):Sp:=fun vs H Q _=>∃ (p:Addr) (d:Int) (L:LA) (kn:Bk) (heads tails:List (List Int)) (rows:List (List Bool)) (f:Nat) (a:Addr) (w:List Int),vs=[.ref p,.ref a]∧LrnAt C CB H p d L kn heads tails rows f ∧
 H a=some (.lst (w.map V.int))∧a∉mutL p L∧0≤d∧d≤6∧heads.length≤400∧w.length≤1000∧rows.length=(linesOf d heads).length ∧
 ∀ H' L',LrnAt C CB H' p d L' kn (heads++[w]) tails (rows++List.replicate (d.toNat+1) []) f→LStepA p a L L' H H'→Q .non H'
structure HG (p:Addr) (L:LA) (H H':Hp) (a:Addr) (w:List Int) (i:Nat) (es rs:List Addr):Prop where
 kp:∀ b o,b≠L.ha→b≠L.li→b≠L.ro→H b=some o→H' b=some o
 hds:H' L.ha=some (.lst ((L.hA++[a]).map V.ref))
 lns:H' L.li=some (.lst ((L.lA++a :: es).map V.ref))
 lnw:LsAt V.int H' es ((List.range i).map fun (j:Nat)=>w++[(j:Int)])
 rws:H' L.ro=some (.lst ((L.rA++rs).map V.ref))
 rww:∀ b∈rs,H' b=some (.lst (([]:List Bool).map V.bl))
 rnd:rs.Nodup
 new:∀ b,b∈es∨b∈rs→H b=none
theorem ok_Learner_add_head (T:Txt K mg t):FnOk P w K mg base CX0 1 t.f_Learner_add_head t.fd_Learner_add_head ["self","head"] (sp_Learner_add_head t.C_Learner t.C_Book):=by
 refine T.F_Learner_add_head.ok sc_Learner_add_head (fun vs H Q E h=>?_) (fun cdv A outer s H vs Q E hr h=>?_)
 ·obtain ⟨p,d,L,kn,heads,tails,rows,f,a,w,rfl,_⟩:=h
  rfl
 ·obtain ⟨p,d,L,kn,heads,tails,rows,f,a,w,rfl,lr,ha,na,hd0,hd6,hh4,hw1,hrl,q⟩:=h
  obtain ⟨dx,fs,ho,hf⟩:=lr.ob
  have nd:=lr.nd
  simp only [mutL,List.nodup_cons,List.mem_cons,not_or] at nd
  obtain ⟨⟨p1,p2,p3,p4,p5,p6,p7⟩,⟨_,b3,b4,b5,b6,_⟩,⟨c3,c4,c5,c6,_⟩,⟨d4,d5,d6,d7⟩,⟨e5,e6,e7⟩,⟨f6,f7⟩,g7,_⟩:=nd
  have na1:a≠L.ha:=fun z=>na (by rw [z];exact mut_ha)
  have na2:a≠L.li:=fun z=>na (by rw [z];exact mut_li)
  have na3:a≠L.ro:=fun z=>na (by rw [z];exact mut_ro)
  have lhA:L.hA.length=heads.length:=lr.hdw.len
  have llA:L.lA.length=heads.length * (d.toNat+1):=by rw [lr.lnw.len,linesOf_len]
  have lrA:L.rA.length=heads.length * (d.toNat+1):=by rw [lr.rww.len,hrl,linesOf_len]
  have hb1:heads.length * (d.toNat+1)≤2800:=by
   have:heads.length * (d.toNat+1)≤400 * 7:=Nat.mul_le_mul hh4 (by omega)
   omega
  refine ⟨_,pss_cons (ps_expr (pe_bmK K PySem.F.plainAttrs_list PySem.F.slot_list_append PySem.F.type_list_append mt_append (pe_fldK K (pv 0) rfl) (pa_cons (pv 1) (pa_nil))))
 (pss_cons (ps_expr (pe_bmK K PySem.F.plainAttrs_list PySem.F.slot_list_append PySem.F.type_list_append mt_append (pe_fldK K (pv 0) rfl) (pa_cons (pv 1) (pa_nil))))
 (pss_cons (ps_expr (pe_bmK K PySem.F.plainAttrs_list PySem.F.slot_list_append PySem.F.type_list_append mt_append (pe_fldK K (pv 0) rfl) (pa_cons (pe_lst (pa_nil)) (pa_nil) star_lst)))
 (pss_one (ps_for PassesOwn.never rfl (pi_range1 rfl T.m_range (pa_cons (pe_fldK K (pv 0) rfl) (pa_nil))) (pg_name (i:=2) sc_Learner_add_head.nd rfl (Or.inl rfl))
 (pss_cons (ps_expr (pe_bmK K PySem.F.plainAttrs_list PySem.F.slot_list_append PySem.F.type_list_append mt_append (pe_fldK K (pv 0) rfl) (pa_cons (pe_op op_cat (pv 1) (pe_lst (pa_cons (pv 2) (pa_nil)))) (pa_nil))))
 (pss_one (ps_expr (pe_bmK K PySem.F.plainAttrs_list PySem.F.slot_list_append PySem.F.type_list_append mt_append (pe_fldK K (pv 0) rfl) (pa_cons (pe_lst (pa_nil)) (pa_nil) star_lst))))))))),?_⟩
  walk_at "w";refine ⟨_,rfl,p,_,dx,_,_,rfl,ho,T.cl_Learner,T.na_Learner_heads,hf.heads,?_⟩
  walk_at "w";refine ⟨.inl ⟨rfl,_,SqL.of lr.hds⟩,?_⟩
  walk_at "w";refine ⟨L.ha,_,_,rfl,rfl,lr.hds,big6 (by rw [List.length_map];omega),?_⟩
  walk_at "w";refine ⟨_,rfl,p,_,dx,_,_,rfl,by rw [upd_ne p3];exact ho,T.cl_Learner,T.na_Learner_lines,hf.lines,?_⟩
  walk_at "w";have li1:(upd H L.ha (.lst (L.hA.map V.ref++[.ref a]))) L.li=some (.lst (L.lA.map V.ref)):=by rw [upd_ne (Ne.symm d5)];exact lr.lns
  refine ⟨.inl ⟨rfl,_,SqL.of li1⟩,?_⟩
  walk_at "w";refine ⟨L.li,_,_,rfl,rfl,li1,big6 (by rw [List.length_map];omega),?_⟩
  walk_at "w";refine ⟨_,rfl,p,_,dx,_,_,rfl,by rw [upd_ne p5,upd_ne p3];exact ho,T.cl_Learner,T.na_Learner_rows,hf.rows,?_⟩
  walk_at "w";have ro1:(upd (upd H L.ha (.lst (L.hA.map V.ref++[.ref a]))) L.li (.lst (L.lA.map V.ref++[.ref a]))) L.ro=some (.lst (L.rA.map V.ref)):=by rw [upd_ne (Ne.symm f6),upd_ne (Ne.symm d6)];exact lr.rws
  refine ⟨.inl ⟨rfl,_,SqL.of ro1⟩,?_⟩
  walk_at "w";refine ⟨Nat.zero_le _,fun r0 hr0=>?_⟩
  walk_at "w";have hr0H:H r0=none:=by
   by_cases z1:r0=L.li
   ·rw [z1,upd_same] at hr0;cases hr0
   ·rw [upd_ne z1] at hr0
    by_cases z2:r0=L.ha
    ·rw [z2,upd_same] at hr0;cases hr0
    ·rw [upd_ne z2] at hr0;exact hr0
  have nr1:L.ha≠r0:=ne_of_none lr.hds hr0H
  have nr2:L.li≠r0:=ne_of_none lr.lns hr0H
  have nr3:L.ro≠r0:=ne_of_none lr.rws hr0H
  refine ⟨L.ro,_,_,rfl,rfl,by rw [upd_ne nr3];exact ro1,big6 (by rw [List.length_map];omega),?_⟩
  have G0:HG p L H (upd (upd (upd (upd H L.ha (.lst (L.hA.map V.ref++[.ref a]))) L.li (.lst (L.lA.map V.ref++[.ref a]))) r0 (.lst [])) L.ro (.lst (L.rA.map V.ref++[.ref r0]))) a w 0 [] [r0]:=by
   refine ⟨fun b o h1 h2 h3 e=>?_,?_,?_,⟨rfl,fun i b v h1 h2=>by simp at h1⟩,?_,fun b hb=>?_,by simp,fun b hb=>?_⟩
   ·rw [upd_ne h3,upd_ne (ne_of_none e hr0H),upd_ne h2,upd_ne h1];exact e
   ·rw [upd_ne d6,upd_ne nr1,upd_ne d5,upd_same,List.map_append];rfl
   ·rw [upd_ne f6,upd_ne nr2,upd_same,List.map_append];rfl
   ·rw [upd_same,List.map_append];rfl
   ·rw [List.mem_singleton.mp hb,upd_ne (Ne.symm nr3),upd_same];rfl
   ·rcases hb with hb | hb
    ·exact nomatch hb
    ·rw [List.mem_singleton.mp hb];exact hr0H
  generalize upd (upd (upd (upd H L.ha (.lst (L.hA.map V.ref++[.ref a]))) L.li (.lst (L.lA.map V.ref++[.ref a]))) r0 (.lst [])) L.ro (.lst (L.rA.map V.ref++[.ref r0]))=H1 at G0 ⊢
  walk_at "w";refine ⟨_,rfl,p,_,dx,_,_,rfl,G0.kp _ _ p3 p5 p6 ho,T.cl_Learner,T.na_Learner_doors,hf.doors,?_⟩
  walk_at "w";refine ⟨_,rfl,by omega,by omega,?_⟩
  refine for_range (fun i σ H'=>∃ es rs,es.length=i∧rs.length=i+1∧HG p L H H' a w i es rs∧∃ k2,σ=[some (.ref p),some (.ref a),k2]) ⟨[],[r0],rfl,rfl,G0,_,rfl⟩ (fun i σ H2 hi pp=>?_) (fun σ H2 pp=>?_)
  ·obtain ⟨es,rs,hes,hrs,G,k2,rfl⟩:=pp
   have e0:(0:Int)+(i:Int)=(i:Int):=by omega
   rw [e0]
   walk_at "w";refine ⟨_,rfl,p,_,dx,_,_,rfl,G.kp _ _ p3 p5 p6 ho,T.cl_Learner,T.na_Learner_lines,hf.lines,?_⟩
   walk_at "w";refine ⟨.inl ⟨rfl,_,SqL.of G.lns⟩,?_⟩
   walk_at "w";refine ⟨by show 1≤sizeLine;decide,fun c1 hc1=>?_⟩
   have hc1H:H c1=none:=by
    cases hh:H c1 with
    | none=>rfl
    | some o =>
     rw [G.kp c1 o (fun z=>by rw [z,G.hds] at hc1;cases hc1) (fun z=>by rw [z,G.lns] at hc1;cases hc1) (fun z=>by rw [z,G.rws] at hc1;cases hc1) hh] at hc1
     cases hc1
   have s3:Same H2 (upd H2 c1 (.lst [.int (i:Int)])):=Same.upd_new hc1
   have c13:(upd H2 c1 (.lst [.int (i:Int)])) c1=some (.lst [.int (i:Int)]):=upd_same
   have G3:HG p L H (upd H2 c1 (.lst [.int (i:Int)])) a w i es rs:=⟨fun b o h1 h2 h3 e=>s3 _ _ (G.kp b o h1 h2 h3 e),s3 _ _ G.hds,s3 _ _ G.lns,G.lnw.keep fun b _ o=>s3 b o,s3 _ _ G.rws,fun b hb=>s3 _ _ (G.rww b hb),G.rnd,G.new⟩
   generalize upd H2 c1 (.lst [.int (i:Int)])=H3 at s3 c13 G3 ⊢
   refine ⟨a,c1,_,_,rfl,rfl,G3.kp _ _ na1 na2 na3 ha,c13,Nat.le_of_lt (big6 (by simp;omega)),fun c2 hc2=>?_⟩
   have ec2:w.map V.int++[V.int (i:Int)]=(w++[(i:Int)]).map V.int:=by rw [List.map_append];rfl
   rw [ec2]
   have hc2H:H c2=none:=by
    cases hh:H c2 with
    | none=>rfl
    | some o =>
     rw [G3.kp c2 o (fun z=>by rw [z,G3.hds] at hc2;cases hc2) (fun z=>by rw [z,G3.lns] at hc2;cases hc2) (fun z=>by rw [z,G3.rws] at hc2;cases hc2) hh] at hc2
     cases hc2
   have ncl:L.li≠c2:=ne_of_none G3.lns hc2
   have nch:L.ha≠c2:=ne_of_none G3.hds hc2
   have ncr:L.ro≠c2:=ne_of_none G3.rws hc2
   walk_at "w";refine ⟨L.li,_,_,rfl,rfl,by rw [upd_ne ncl];exact G3.lns,big6 (by rw [List.length_map,List.length_append,List.length_cons];omega),?_⟩
   have nes:∀ b∈es,b≠L.li:=fun b hb=>by have:=G3.new b (.inl hb);intro z;rw [z,lr.lns] at this;cases this
   have nrs:∀ b∈rs,b≠L.li:=fun b hb=>by have:=G3.new b (.inr hb);intro z;rw [z,lr.lns] at this;cases this
   have k4:∀ b o,b≠L.li→H3 b=some o→upd (upd H3 c2 (.lst ((w++[(i:Int)]).map V.int))) L.li (.lst ((L.lA++a :: es).map V.ref++[.ref c2])) b=some o:=fun b o h1 e=>by
    rw [upd_ne h1,upd_ne (ne_of_none e hc2)];exact e
   have c24:upd (upd H3 c2 (.lst ((w++[(i:Int)]).map V.int))) L.li (.lst ((L.lA++a :: es).map V.ref++[.ref c2])) c2=some (.lst ((w++[(i:Int)]).map V.int)):=by rw [upd_ne (Ne.symm ncl),upd_same]
   have li4:upd (upd H3 c2 (.lst ((w++[(i:Int)]).map V.int))) L.li (.lst ((L.lA++a :: es).map V.ref++[.ref c2])) L.li=some (.lst ((L.lA++a :: (es++[c2])).map V.ref)):=by
    rw [upd_same];simp
   generalize upd (upd H3 c2 (.lst ((w++[(i:Int)]).map V.int))) L.li (.lst ((L.lA++a :: es).map V.ref++[.ref c2]))=H4 at k4 c24 li4 ⊢
   walk_at "w";refine ⟨_,rfl,p,_,dx,_,_,rfl,k4 _ _ p5 (G3.kp _ _ p3 p5 p6 ho),T.cl_Learner,T.na_Learner_rows,hf.rows,?_⟩
   walk_at "w";have ro4:=k4 _ _ (Ne.symm f6) G3.rws
   refine ⟨.inl ⟨rfl,_,SqL.of ro4⟩,?_⟩
   walk_at "w";refine ⟨Nat.zero_le _,fun r5 hr5=>?_⟩
   walk_at "w";have nr5:L.ro≠r5:=ne_of_none ro4 hr5
   refine ⟨L.ro,_,_,rfl,rfl,by rw [upd_ne nr5];exact ro4,big6 (by rw [List.length_map,List.length_append];omega),?_⟩
   have hr5H:H r5=none:=by
    cases hh:H r5 with
    | none=>rfl
    | some o =>
     have z1:r5≠L.li:=fun z=>by rw [z,li4] at hr5;cases hr5
     have z2:r5≠L.ha:=fun z=>by rw [z,k4 _ _ d5 G3.hds] at hr5;cases hr5
     rw [k4 _ _ z1 (G3.kp r5 o z2 z1 (Ne.symm nr5) hh)] at hr5
     cases hr5
   have k6:∀ b o,b≠L.ro→H4 b=some o→upd (upd H4 r5 (.lst [])) L.ro (.lst ((L.rA++rs).map V.ref++[.ref r5])) b=some o:=fun b o h1 e=>by
    rw [upd_ne h1,upd_ne (ne_of_none e hr5)];exact e
   have nesr:∀ b,H b=none→b≠L.ro:=fun b hb z=>by rw [z,lr.rws] at hb;cases hb
   have r5rs:r5∉rs:=fun z=>by rw [k4 _ _ (nrs _ z) (G3.rww _ z)] at hr5;cases hr5
   refine ⟨es++[c2],rs++[r5],by simp [hes],by simp [hrs],⟨fun b o h1 h2 h3 e=>k6 _ _ h3 (k4 _ _ h2 (G3.kp b o h1 h2 h3 e)),k6 _ _ d6 (k4 _ _ d5 G3.hds),k6 _ _ f6 li4,?_,?_,fun b hb=>?_,?_,fun b hb=>?_⟩,_,rfl⟩
   ·rw [map_range_snoc]
    refine LsAt.snoc (G3.lnw.keep fun b hb o e=>k6 _ _ (nesr _ (G3.new b (.inl hb))) (k4 _ _ (nes b hb) e)) (k6 _ _ (nesr _ hc2H) c24)
   ·rw [upd_same];simp
   ·rcases List.mem_append.mp hb with hb | hb
    ·exact k6 _ _ (nesr _ (G3.new b (.inr hb))) (k4 _ _ (nrs b hb) (G3.rww b hb))
    ·rw [List.mem_singleton.mp hb,upd_ne (Ne.symm nr5),upd_same];rfl
   ·exact nd_snoc G3.rnd r5rs
   ·rcases hb with hb | hb
    ·rcases List.mem_append.mp hb with hb | hb
     ·exact G3.new b (.inl hb)
     ·rw [List.mem_singleton.mp hb];exact hc2H
    ·rcases List.mem_append.mp hb with hb | hb
     ·exact G3.new b (.inr hb)
     ·rw [List.mem_singleton.mp hb];exact hr5H
  ·obtain ⟨es,rs,hes,hrs,G,k2,rfl⟩:=pp
   obtain ⟨bx,hbk⟩:=lr.book.ob
   have k:∀ b o,b∉[L.ha,L.li,L.ro]→H b=some o→H2 b=some o:=fun b o hb e=>by
    simp only [List.mem_cons,List.not_mem_nil,or_false,not_or] at hb
    exact G.kp b o hb.1 hb.2.1 hb.2.2 e
   have kw:∀ b∈wdsL L,b∉[L.ha,L.li,L.ro]:=fun b hb z=>by
    simp only [List.mem_cons,List.not_mem_nil,or_false] at z
    rcases z with z | z | z
    ·exact lr.sep b hb (by rw [z];exact mut_ha)
    ·exact lr.sep b hb (by rw [z];exact mut_li)
    ·exact lr.sep b hb (by rw [z];exact mut_ro)
   have a2:H2 a=some (.lst (w.map V.int)):=G.kp _ _ na1 na2 na3 ha
   have hnm:∀ b,H b=none→b∉mutL p L:=fun b hb z=>lr.notOwn hb (own_mut z)
   have er:es=List.map id es:=by simp
   refine q H2 { L with hA:=L.hA++[a],lA:=L.lA++a :: es,rA:=L.rA++rs } ⟨⟨dx,fs,k _ _ (by simp;exact ⟨p3,p5,p6⟩) ho,hf.of rfl rfl rfl rfl rfl⟩,⟨⟨bx,k _ _ (by simp;exact ⟨b3,b5,b6⟩) hbk⟩,k _ _ (by simp;exact ⟨c3,c5,c6⟩) lr.book.noted,lr.book.nd⟩,G.hds,LsAt.snoc (lr.hdw.keep fun b hb o=>k b o (kw b (wd_h hb))) a2,k _ _ (by simp;exact ⟨Ne.symm d4,e5,e6⟩) lr.tls,lr.tlw.keep fun b hb o=>k b o (kw b (wd_t hb)),G.lns,?_,G.rws,?_,?_,?_⟩ ⟨fun b o hb e=>?_,fun b hb=>?_,fun b hb=>?_⟩
   ·rw [linesOf_snoc]
    have l1:LsAt V.int H2 (L.lA++[a]) (linesOf d heads++[w]):=LsAt.snoc (lr.lnw.keep fun b hb o=>k b o (kw b (wd_l hb))) a2
    have:=LsAt.app l1 G.lnw
    rw [List.append_assoc,List.append_assoc] at this
    have hdn:(d:Int).toNat=d.toNat:=rfl
    exact this
   ·refine LsAt.app (lr.rww.keep fun b hb o=>k b o fun z=>?_) ⟨by rw [hrs,List.length_replicate],fun i b v h1 h2=>?_⟩
    ·simp only [List.mem_cons,List.not_mem_nil,or_false] at z
     rcases z with z | z | z
     ·exact d7 (by rw [← z];exact hb)
     ·exact f7 (by rw [← z];exact hb)
     ·exact g7 (by rw [← z];exact hb)
    ·rw [(List.mem_replicate.mp (List.mem_of_getElem? h2)).2]
     exact G.rww b (List.mem_of_getElem? h1)
   ·show (p :: L.bk :: L.nb :: L.ha :: L.ta :: L.li :: L.ro :: (L.rA++rs)).Nodup
    have:(mutL p L++rs).Nodup:=List.nodup_append.mpr ⟨lr.nd,G.rnd,fun x hx y hy e=>hnm y (G.new y (.inr hy)) (by rw [← e];exact hx)⟩
    exact this
   ·intro b hb z
    have hz:b∈mutL p L++rs:=z
    have hb':b∈wdsL L∨b=a∨b∈es:=by
     rcases List.mem_append.mp hb with hb | hb
     ·rcases List.mem_append.mp hb with hb | hb
      ·rcases List.mem_append.mp hb with hb | hb
       ·exact .inl (wd_h hb)
       ·exact .inr (.inl (List.mem_singleton.mp hb))
      ·exact .inl (wd_t hb)
     ·rcases List.mem_append.mp hb with hb | hb
      ·exact .inl (wd_l hb)
      ·rcases List.mem_cons.mp hb with hb | hb
       ·exact .inr (.inl hb)
       ·exact .inr (.inr hb)
    rcases List.mem_append.mp hz with hz | hz
    ·rcases hb' with hb | hb | hb
     ·exact lr.sep b hb hz
     ·exact na (by rw [← hb];exact hz)
     ·exact hnm b (G.new b (.inl hb)) hz
    ·have hn:=G.new b (.inr hz)
     rcases hb' with hb | hb | hb
     ·exact lr.notOwn hn (own_wd hb)
     ·rw [hb,ha] at hn;cases hn
     ·obtain ⟨v,hv,e⟩:=G.lnw.mem hb
      rw [G.rww b hz] at e
      obtain ⟨j,_,rfl⟩:=List.mem_map.mp hv
      simp at e
   ·exact k b o (fun z=>hb (by
     simp only [List.mem_cons,List.not_mem_nil,or_false] at z
     rcases z with z | z | z
     ·rw [z];exact mut_ha
     ·rw [z];exact mut_li
     ·rw [z];exact mut_ro)) e
   ·rcases List.mem_append.mp hb with hb | hb
    ·have hb:b∈mutL p L++rs:=hb
     rcases List.mem_append.mp hb with hb | hb
     ·exact .inl (own_mut hb)
     ·exact .inr (.inr (G.new b (.inr hb)))
    ·rcases List.mem_append.mp hb with hb | hb
     ·rcases List.mem_append.mp hb with hb | hb
      ·rcases List.mem_append.mp hb with hb | hb
       ·exact .inl (own_wd (wd_h hb))
       ·exact .inr (.inl (List.mem_singleton.mp hb))
      ·exact .inl (own_wd (wd_t hb))
     ·rcases List.mem_append.mp hb with hb | hb
      ·exact .inl (own_wd (wd_l hb))
      ·rcases List.mem_cons.mp hb with hb | hb
       ·exact .inr (.inl hb)
       ·exact .inr (.inr (G.new b (.inl hb)))
   ·have hb:b∈mutL p L++rs:=hb
    rcases List.mem_append.mp hb with hb | hb
    ·exact .inl hb
    ·exact .inr (G.new b (.inr hb))
theorem sc_Learner_init:FnScope ["self","doors"] ["self","doors"] (defScope s_Learner_init):=⟨rfl,rfl,rfl,by decide +kernel,rfl,by decide +kernel,by decide +kernel⟩
theorem b_Learner_init (T:Txt K mg t):Binds K t.fd_Learner_init ["self","doors"] []:=T.F_Learner_init.binds fun _ _ _ _ _ _ us hl=>by obtain ⟨_,_,rfl⟩:=len_2 hl;rfl
def sp_Learner_init (C CB CE:Addr):Sp:=fun vs H Q E=>∃ (p dx:Addr) (d:Int),vs=[.ref p,.int d]∧H p=some (.ins C dx [])∧-1000000≤d∧d≤1000000 ∧
 (1≤d∧d≤6→∀ (H':Hp) (L:LA),LrnAt C CB H' p d L [] [[]] [[]] (List.replicate (d.toNat+1) []) 0→(∀ b o,H b=some o→b≠p→H' b=some o)→(∀ b∈ownL p L,b≠p→H b=none)→Q .non H') ∧
 (¬ (1≤d∧d≤6)→∀ H',Same H H'→E (.ref CE) none H')
structure Stg (H:Hp) (C p dx:Addr) (Hc:Hp) (fs:List (Str×V)) (xs:List (Addr×HO)):Prop where
 ob:Hc p=some (.ins C dx fs)
 is:∀ x∈xs,Hc x.1=some x.2∧H x.1=none
 nd:(p :: xs.map Prod.fst).Nodup
 kp:∀ b o,H b=some o→b≠p→Hc b=some o
theorem Stg.new {H:Hp} {C p dx:Addr} {Hc:Hp} {fs:List (Str×V)} {xs:List (Addr×HO)} (S:Stg H C p dx Hc fs xs) {l:Addr} (hl:Hc l=none) (o:HO):Stg H C p dx (upd Hc l o) fs ((l,o) :: xs):=by
 have hp:p≠l:=ne_of_none S.ob hl
 have hn:H l=none:=by
  cases hh:H l with
  | none=>rfl
  | some u=>rw [S.kp l u hh (Ne.symm hp)] at hl;cases hl
 have hx:l∉xs.map Prod.fst:=fun z=>by
  obtain ⟨x,hx,rfl⟩:=List.mem_map.mp z
  rw [(S.is x hx).1] at hl;cases hl
 have nd:=List.nodup_cons.mp S.nd
 refine ⟨by rw [upd_ne hp];exact S.ob,fun x hx'=>?_,?_,fun b u e hb=>?_⟩
 ·rcases List.mem_cons.mp hx' with rfl | hx'
  ·exact ⟨upd_same,hn⟩
  ·refine ⟨?_,(S.is x hx').2⟩
   rw [upd_ne (fun z=>hx (List.mem_map.mpr ⟨x,hx',z⟩))];exact (S.is x hx').1
 ·rw [List.map_cons]
  refine List.nodup_cons.mpr ⟨fun z=>?_,List.nodup_cons.mpr ⟨hx,nd.2⟩⟩
  rcases List.mem_cons.mp z with z | z
  ·exact hp z
  ·exact nd.1 z
 ·rw [upd_ne (ne_of_none e hn)];exact S.kp b u e hb
theorem Stg.put {H:Hp} {C p dx:Addr} {Hc:Hp} {fs:List (Str×V)} {xs:List (Addr×HO)} (S:Stg H C p dx Hc fs xs) (fs':List (Str×V)):Stg H C p dx (upd Hc p (.ins C dx fs')) fs' xs:=by
 have nd:=List.nodup_cons.mp S.nd
 refine ⟨upd_same,fun x hx=>?_,S.nd,fun b u e hb=>by rw [upd_ne hb];exact S.kp b u e hb⟩
 rw [upd_ne (fun z=>nd.1 (List.mem_map.mpr ⟨x,hx,z⟩))];exact S.is x hx
theorem Stg.none {H:Hp} {C p dx:Addr} {Hc:Hp} {fs:List (Str×V)} {xs:List (Addr×HO)} (S:Stg H C p dx Hc fs xs) {b:Addr} (h:b∈xs.map Prod.fst):H b=Option.none:=by
 obtain ⟨x,hx,rfl⟩:=List.mem_map.mp h
 exact (S.is x hx).2
theorem ok_Learner_init (T:Txt K mg t):FnOk P w K mg base (CXr P w) 4 t.f_Learner_init t.fd_Learner_init ["self","doors"] (sp_Learner_init t.C_Learner t.C_Book t.C_BadHouse):=by
 refine T.F_Learner_init.okX sc_Learner_init (fun vs H Q E h=>?_) (fun cdv A outer s H vs Q E hr h=>?_)
 ·obtain ⟨p,dx,d,rfl,_⟩:=h
  rfl
 ·obtain ⟨p,dx,d,rfl,hp,hdl,hdu,q,qe⟩:=h
  refine ⟨_,pss_cons (ps_fldK K (pv 0) (pe_make T.mk_Book (ok_Book_init T) (hr.mono (by decide)) rfl T.mg_Book (b_Book_init T) .nil xp_def.pass (pa_cons (pv 1) (pa_nil))) rfl)
 (pss_cons (ps_fldK K (pv 0) (pv 1) rfl)
 (pss_cons (ps_fldK K (pv 0) (pe_lst (pa_nil)) rfl)
 (pss_cons (ps_fldK K (pv 0) (pe_lst (pa_cons (pe_lst (pa_nil)) (pa_nil) star_lst)) rfl)
 (pss_cons (ps_fldK K (pv 0) (pe_lst (pa_nil)) rfl)
 (pss_cons (ps_fldK K (pv 0) (pe_lst (pa_nil)) rfl)
 (pss_cons (ps_fldK K (pv 0) (pe_int) rfl)
 (pss_one (ps_expr (pe_meth (pv 0) T.cl_Learner T.me_Learner_add_head (ok_Learner_add_head T) (hr.mono (by decide)) (b_Learner_add_head T) .nil pass0 (pa_cons (pe_lst (pa_nil)) (pa_nil) star_lst)))))))))),?_⟩
  walk_at "w";intro bk bdx n1 n2 n3
  have sm:Same H (upd (upd H bdx (.own bk)) bk (.ins t.C_Book bdx [])):=(Same.upd_new n2).trans (Same.upd_new (by rw [upd_ne (Ne.symm n3)];exact n1))
  refine ⟨bk,bdx,d,rfl,upd_same,hdl,hdu,fun hd H1 nb B1 keep1 new1=>⟨rfl,?_⟩,fun z=>qe z _ sm⟩
  obtain ⟨hd1,hd6⟩:=hd
  replace q:=q ⟨hd1,hd6⟩
  have s1:Same H H1:=fun b o e=>keep1 b o (sm b o e) (ne_of_none e n1)
  have hnb:H nb=none:=sm.free new1
  have hbk:H bk=none:=n1
  obtain ⟨bx,hb⟩:=B1.ob
  have S0:Stg H t.C_Learner p dx H1 [] [(nb,.dT (([]:Bk).map bkv)),(bk,.ins t.C_Book bx (bkf d nb))]:=by
   refine ⟨s1 _ _ hp,fun x hx=>?_,?_,fun b o e _=>s1 b o e⟩
   ·rcases List.mem_cons.mp hx with rfl | hx
    ·exact ⟨B1.noted,hnb⟩
    ·rw [List.mem_singleton.mp hx];exact ⟨hb,hbk⟩
   ·have h1:p≠nb:=ne_of_none hp hnb
    have h2:p≠bk:=ne_of_none hp hbk
    have h3:nb≠bk:=Ne.symm (ne_of hb B1.noted (fun z=>nomatch z))
    simp [h1,h2,h3]
  clear keep1 new1 sm
  have hlen:∀ {k:Nat} {fs:List (Str×V)} (f:Str) (v:V),fs.length≤k→(putF f v fs).length≤k+1:=fun f v h=>Nat.le_trans (length_putF f v _) (by omega)
  have z0:([]:List (Str×V)).length≤0:=Nat.le_refl _
  walk_at "w";refine ⟨p,_,dx,_,rfl,S0.ob,T.cl_Learner,T.na_Learner_book,(by show 0 < 1000;decide),?_⟩
  have S1:=S0.put (putF "book" (.ref bk) [])
  have z1:=hlen "book" (.ref bk) z0
  generalize upd H1 p _=H2 at S1 ⊢
  walk_at "w";refine ⟨p,_,dx,_,rfl,S1.ob,T.cl_Learner,T.na_Learner_doors,by omega,?_⟩
  have S2:=S1.put (putF "doors" (.int d) (putF "book" (.ref bk) []))
  have z2:=hlen "doors" (.int d) z1
  generalize upd H2 p _=H3 at S2 ⊢
  walk_at "w";refine ⟨Nat.zero_le _,fun ha hha=>?_⟩
  have S3:=S2.new hha (.lst [])
  generalize upd H3 ha _=H4 at S3 ⊢
  walk_at "w";refine ⟨p,_,dx,_,rfl,S3.ob,T.cl_Learner,T.na_Learner_heads,by omega,?_⟩
  have S4:=S3.put (putF "heads" (.ref ha) (putF "doors" (.int d) (putF "book" (.ref bk) [])))
  have z4:=hlen "heads" (.ref ha) z2
  generalize upd H4 p _=H5 at S4 ⊢
  walk_at "w";refine ⟨Nat.zero_le _,fun em hem=>?_⟩
  have S5:=S4.new hem (.lst [])
  generalize upd H5 em _=H6 at S5 ⊢
  walk_at "w";refine ⟨by show 1≤sizeLine;decide,fun ta hta=>?_⟩
  have S6:=S5.new hta (.lst [.ref em])
  generalize upd H6 ta _=H7 at S6 ⊢
  walk_at "w";refine ⟨p,_,dx,_,rfl,S6.ob,T.cl_Learner,T.na_Learner_tails,by omega,?_⟩
  have S7:=S6.put (putF "tails" (.ref ta) (putF "heads" (.ref ha) (putF "doors" (.int d) (putF "book" (.ref bk) []))))
  have z7:=hlen "tails" (.ref ta) z4
  generalize upd H7 p _=H8 at S7 ⊢
  walk_at "w";refine ⟨Nat.zero_le _,fun li hli=>?_⟩
  have S8:=S7.new hli (.lst [])
  generalize upd H8 li _=H9 at S8 ⊢
  walk_at "w";refine ⟨p,_,dx,_,rfl,S8.ob,T.cl_Learner,T.na_Learner_lines,by omega,?_⟩
  have S9:=S8.put (putF "lines" (.ref li) (putF "tails" (.ref ta) (putF "heads" (.ref ha) (putF "doors" (.int d) (putF "book" (.ref bk) [])))))
  have z9:=hlen "lines" (.ref li) z7
  generalize upd H9 p _=H10 at S9 ⊢
  walk_at "w";refine ⟨Nat.zero_le _,fun ro hro=>?_⟩
  have S10:=S9.new hro (.lst [])
  generalize upd H10 ro _=H11 at S10 ⊢
  walk_at "w";refine ⟨p,_,dx,_,rfl,S10.ob,T.cl_Learner,T.na_Learner_rows,by omega,?_⟩
  have S11:=S10.put (putF "rows" (.ref ro) (putF "lines" (.ref li) (putF "tails" (.ref ta) (putF "heads" (.ref ha) (putF "doors" (.int d) (putF "book" (.ref bk) []))))))
  have z11:=hlen "rows" (.ref ro) z9
  generalize upd H11 p _=H12 at S11 ⊢
  walk_at "w";refine ⟨p,_,dx,_,rfl,S11.ob,T.cl_Learner,T.na_Learner_filled,by omega,?_⟩
  have S12:=S11.put (putF "filled" (.int 0) (putF "rows" (.ref ro) (putF "lines" (.ref li) (putF "tails" (.ref ta) (putF "heads" (.ref ha) (putF "doors" (.int d) (putF "book" (.ref bk) [])))))))
  have z12:=hlen "filled" (.int 0) z11
  generalize upd H12 p _=H13 at S12 ⊢
  have F:LFs (putF "filled" (.int 0) (putF "rows" (.ref ro) (putF "lines" (.ref li) (putF "tails" (.ref ta) (putF "heads" (.ref ha) (putF "doors" (.int d) (putF "book" (.ref bk) []))))))) d ⟨bk,nb,ha,ta,li,ro,[],[em],[],[]⟩ 0:=by
   have s (f g:Str) (h:¬ g=f) (v:V) (fs:List (Str×V)):(putF f v fs).lookup g=fs.lookup g:=by rw [lookup_putF,if_neg h]
   have e (f:Str) (v:V) (fs:List (Str×V)):(putF f v fs).lookup f=some v:=by rw [lookup_putF,if_pos rfl]
   refine ⟨?_,?_,?_,?_,?_,?_,?_,fun m hm=>?_,by omega⟩
   ·rw [s _ _ (by decide +kernel),s _ _ (by decide +kernel),s _ _ (by decide +kernel),s _ _ (by decide +kernel),s _ _ (by decide +kernel),s _ _ (by decide +kernel),e]
   ·rw [s _ _ (by decide +kernel),s _ _ (by decide +kernel),s _ _ (by decide +kernel),s _ _ (by decide +kernel),s _ _ (by decide +kernel),e]
   ·rw [s _ _ (by decide +kernel),s _ _ (by decide +kernel),s _ _ (by decide +kernel),s _ _ (by decide +kernel),e]
   ·rw [s _ _ (by decide +kernel),s _ _ (by decide +kernel),s _ _ (by decide +kernel),e]
   ·rw [s _ _ (by decide +kernel),s _ _ (by decide +kernel),e]
   ·rw [s _ _ (by decide +kernel),e]
   ·rw [e];rfl
   ·simp only [List.mem_cons,List.not_mem_nil,or_false,not_or] at hm
    obtain ⟨m1,m2,m3,m4,m5,m6,m7⟩:=hm
    rw [s _ _ m7,s _ _ m6,s _ _ m5,s _ _ m4,s _ _ m3,s _ _ m2,s _ _ m1];rfl
  have X12:=S12.is
  have N12:=S12.nd
  simp only [List.map_cons,List.map_nil,List.nodup_cons,List.mem_cons,List.not_mem_nil,or_false,not_or] at N12
  obtain ⟨⟨a1,a2,a3,a4,a5,a6,a7⟩,⟨b2,b3,b4,b5,b6,b7⟩,⟨c3,c4,c5,c6,c7⟩,⟨d4,d5,d6,d7⟩,⟨e5,e6,e7⟩,⟨f6,f7⟩,g7,_⟩:=N12
  have lr:LrnAt t.C_Learner t.C_Book H13 p d ⟨bk,nb,ha,ta,li,ro,[],[em],[],[]⟩ [] [] [[]] [] 0:=by
   refine ⟨⟨dx,_,S12.ob,F⟩,⟨⟨bx,(X12 (bk,_) (by simp)).1⟩,(X12 (nb,_) (by simp)).1,by simp⟩,(X12 (ha,_) (by simp)).1,⟨rfl,fun i b v h1 h2=>by simp at h1⟩,(X12 (ta,_) (by simp)).1,⟨rfl,fun i b v h1 h2=>?_⟩,(X12 (li,_) (by simp)).1,⟨rfl,fun i b v h1 h2=>by simp at h1⟩,(X12 (ro,_) (by simp)).1,⟨rfl,fun i b v h1 h2=>by simp at h1⟩,?_,fun b hb=>?_⟩
   ·cases i with
    | zero=>simp at h1 h2;subst h1 h2;exact (X12 (em,_) (by simp)).1
    | succ i=>simp at h1
   ·simp only [mutL,List.nodup_cons,List.mem_cons,List.not_mem_nil,or_false,not_or]
    exact ⟨⟨a7,a6,a5,a3,a2,a1⟩,⟨Ne.symm g7,Ne.symm f7,Ne.symm d7,Ne.symm c7,Ne.symm b7⟩,⟨Ne.symm f6,Ne.symm d6,Ne.symm c6,Ne.symm b6⟩,⟨Ne.symm d5,Ne.symm c5,Ne.symm b5⟩,⟨Ne.symm c3,Ne.symm b3⟩,Ne.symm b2,by simp,by simp⟩
   ·have hb:b=em:=by simpa [wdsL] using hb
    subst hb
    simp only [mutL,List.mem_cons,List.not_mem_nil,or_false,not_or]
    exact ⟨Ne.symm a4,e7,e6,e5,Ne.symm d4,Ne.symm c4,Ne.symm b4⟩
  walk_at "w";refine ⟨p,dx,_,rfl,S12.ob,F.no _ (by decide +kernel),?_⟩
  walk_at "w";refine ⟨Nat.zero_le _,fun e2 he2=>?_⟩
  have S13:=S12.new he2 (.lst [])
  have s13:Same H13 (upd H13 e2 (.lst [])):=Same.upd_new he2
  have nm:=lr.notOwn he2
  have eH:H e2=none:=(S13.is (e2,.lst []) List.mem_cons_self).2
  have e13:(upd H13 e2 (.lst [])) e2=some (.lst (([]:List Int).map V.int)):=upd_same
  have l13:=lr.same s13
  generalize upd H13 e2 (.lst [])=H14 at S13 s13 e13 l13 ⊢
  walk_at "w";refine ⟨p,d,_,[],[],[[]],[],0,e2,[],rfl,l13,e13,fun z=>nm (own_mut z),by omega,hd6,by simp,by simp,rfl,fun H' L' lr' st=>?_⟩
  have hn:∀ b,b∈ownL p ⟨bk,nb,ha,ta,li,ro,[],[em],[],[]⟩→b≠p→H b=none:=fun b hb hbp=>by
   have hb:b=p∨b=bk∨b=nb∨b=ha∨b=ta∨b=li∨b=ro∨b=em:=by simpa [ownL,mutL,wdsL] using hb
   rcases hb with hb | hb | hb | hb | hb | hb | hb | hb
   ·exact absurd hb hbp
   ·rw [hb];exact S12.none (by simp)
   ·rw [hb];exact S12.none (by simp)
   ·rw [hb];exact S12.none (by simp)
   ·rw [hb];exact S12.none (by simp)
   ·rw [hb];exact S12.none (by simp)
   ·rw [hb];exact S12.none (by simp)
   ·rw [hb];exact S12.none (by simp)
  walk_at "w";refine q H' L' lr' (fun b o e hb=>?_) (fun b hb hbp=>?_)
  ·refine st.kp b o (fun z=>?_) (S13.kp b o e hb)
   rw [hn b (own_mut z) hb] at e;cases e
  ·rcases st.own b hb with h | h | h
   ·exact hn b h hbp
   ·rw [h];exact eH
   ·cases hh:H b with
    | none=>rfl
    | some o=>rw [S13.kp b o hh hbp] at h;cases h
theorem sc_Learner_gap:FnScope ["self","line","row","word","lit"] ["self","line","row"] (defScope s_Learner_gap):=⟨rfl,rfl,rfl,by decide +kernel,rfl,by decide +kernel,by decide +kernel⟩
theorem b_Learner_gap (T:Txt K mg t):Binds K t.fd_Learner_gap ["self","line","row"] []:=T.F_Learner_gap.binds fun _ _ _ _ _ _ us hl=>by obtain ⟨_,_,_,rfl⟩:=len_3 hl;rfl
def RowPre (kn:Bk) (tails:List (List Int)) (l:List Int) (r:List Bool):Prop:=r.length≤tails.length∧r.map some=(tails.take r.length).map fun t=>saidO kn (l++t)
def sp_Learner_gap (K:PySem.W.Frag) (C CB:Addr):Sp:=fun vs H Q _=>∃ (p:Addr) (d:Int) (L:LA) (kn:Bk) (heads tails:List (List Int)) (rows:List (List Bool)) (f k:Nat) (la ra:Addr) (l:List Int) (r:List Bool),vs=[.ref p,.ref la,.ref ra]∧LrnAt C CB H p d L kn heads tails rows f ∧
 H la=some (.lst (l.map V.int))∧la∉mutL p L∧L.rA[k]?=some ra∧rows[k]?=some r∧RowPre kn tails l r∧Small heads tails kn∧l.length≤1000 ∧
 (∀ H',gapOf kn tails l=none→LrnAt C CB H' p d L kn heads tails (rows.set k (rowOf kn tails l)) f→LStep p L L H H'→Q .non H') ∧
 (∀ H' w r' a,gapOf kn tails l=some w→RowPre kn tails l r'→LrnAt C CB H' p d L kn heads tails (rows.set k r') f→LStep p L L H H'→H a=none→H' a=some (.lst (w.map V.int))→Q (.ref a) H')
theorem ok_Learner_gap (T:Txt K mg t):FnOk P w K mg base CX0 1 t.f_Learner_gap t.fd_Learner_gap ["self","line","row"] (sp_Learner_gap K t.C_Learner t.C_Book):=by
 refine T.F_Learner_gap.ok sc_Learner_gap (fun vs H Q E h=>?_) (fun cdv A outer s H vs Q E hr h=>?_)
 ·obtain ⟨p,d,L,kn,heads,tails,rows,f,k,la,ra,l,r,rfl,_⟩:=h
  rfl
 ·obtain ⟨p,d,L,kn,heads,tails,rows,f,k,la,ra,l,r,rfl,lr,hla,nla,hra,hrk,hpre,sm,hll,q1,q2⟩:=h
  refine ⟨_,pss_cons (ps_while PassesOwn.never (pt_cmpR op_lt (pe_callB (call_len_seqK K) rfl T.m_len PySem.boot_len (pa_cons (pv 2) (pa_nil))) (pe_callB (call_len_seqK K) rfl T.m_len PySem.boot_len (pa_cons (pe_fldK K (pv 0) rfl) (pa_nil))) (nomark _))
 (pss_cons (ps_set (i:=3) sc_Learner_gap.nd rfl (Or.inl rfl) (pe_op op_cat (pv 1) (pe_ix (ix_listK K) (pe_fldK K (pv 0) rfl) (pe_callB (call_len_seqK K) rfl T.m_len PySem.boot_len (pa_cons (pv 2) (pa_nil))) (fun _ _=>rfl))))
 (pss_cons (ps_set (i:=4) sc_Learner_gap.nd rfl (Or.inl rfl) (pe_dget1 hr.units1 (pe_fldK K (pe_fldK K (pv 0) rfl) rfl) (pe_callTy (call_tuple_ofK K) rfl T.m_tuple boot_tuple (pa_cons (pv 3) (pa_nil))) ⟨rfl,rfl,rfl,rfl⟩))
 (pss_cons (ps_if (pt_cmpR op_isN (pv 4) (pe_non) (nomark _))
 (pss_one (ps_ret (pv 3)))
 (pss_nil))
 (pss_one (ps_expr (pe_bmK K PySem.F.plainAttrs_list PySem.F.slot_list_append PySem.F.type_list_append mt_append (pv 2) (pa_cons (pv 4) (pa_nil)))))))))
 (pss_one (ps_ret (pe_non))),?_⟩
  walk_at "w";have hrs:rows.set k r=rows:=by
   obtain ⟨h1,h2⟩:=List.getElem?_eq_some_iff.mp hrk
   rw [← h2];exact List.set_getElem_self h1
  have hkl:k < rows.length:=(List.getElem?_eq_some_iff.mp hrk).1
  refine ⟨fun m σ H'=>∃ r',RowPre kn tails l r'∧m=tails.length - r'.length∧LrnAt t.C_Learner t.C_Book H' p d L kn heads tails (rows.set k r') f∧LStep p L L H H'∧∃ k3 k4,σ=[some (.ref p),some (.ref la),some (.ref ra),k3,k4],⟨_,r,hpre,rfl,by rw [hrs];exact lr,.same (Same.refl _),_,_,rfl⟩,?_⟩
  rintro m σ H1 ⟨r',hp',rfl,l1,st1,k3,k4,rfl⟩
  obtain ⟨dx,fs,ho,hf⟩:=l1.ob
  have hra1:H1 ra=some (.lst (r'.map V.bl)):=l1.rww.row k ra r' hra (List.getElem?_set_self hkl)
  have hla1:H1 la=some (.lst (l.map V.int)):=st1.kp _ _ nla hla
  have etl:(L.tA.map V.ref).length=tails.length:=by rw [List.length_map,l1.tlw.len]
  walk_at "w";refine ⟨ra,_,rfl,.inl (SqL.of hra1),?_⟩
  walk_at "w";refine r_fld (a:=0) ?_
  walk_at "w";refine ⟨p,_,dx,_,_,rfl,ho,T.cl_Learner,T.na_Learner_tails,hf.tails,?_⟩
  walk_at "w";refine ⟨_,_,rfl,.inl (SqL.of l1.tls),?_⟩
  rw [etl,List.length_map]
  walk_at "w";refine r_ite (fun hc=>?_) (fun hc=>?_)
  ·have hlt:r'.length < tails.length:=by simpa using hc
   have ht:=List.getElem?_eq_getElem hlt
   obtain ⟨ta,ta1,ta2,ta3⟩:=l1.tlw.get ht
   have htw:=sm.tw _ (List.getElem_mem hlt)
   generalize tails[r'.length]=tw at ht ta3 htw
   refine ⟨fun σ' H'=>∃ r2,r2.length=r'.length+1∧RowPre kn tails l r2∧LrnAt t.C_Learner t.C_Book H' p d L kn heads tails (rows.set k r2) f∧LStep p L L H H'∧∃ k3 k4,σ'=[some (.ref p),some (.ref la),some (.ref ra),k3,k4],fun σ' H' ⟨r2,e,a1,a2,a3,a4⟩=>⟨tails.length - r2.length,by omega,r2,a1,rfl,a2,a3,a4⟩,?_⟩
   walk_at "w";refine r_fld (a:=0) ?_
   walk_at "w";refine ⟨p,_,dx,_,_,rfl,ho,T.cl_Learner,T.na_Learner_tails,hf.tails,?_⟩
   walk_at "w";refine ⟨ra,_,rfl,.inl (SqL.of hra1),?_⟩
   rw [List.length_map]
   refine r_ixL (SqL.of l1.tls) (atI_nat (j:=r'.length) ta2) ?_
   walk_at "w";refine ⟨la,ta,_,_,rfl,rfl,hla1,ta3,Nat.le_of_lt (big6 (by rw [List.length_map,List.length_map];omega)),fun wa hwa=>?_⟩
   rw [← List.map_append]
   have s2:Same H1 (upd H1 wa (.lst ((l++tw).map V.int))):=Same.upd_new hwa
   have wa2:(upd H1 wa (.lst ((l++tw).map V.int))) wa=some (.lst ((l++tw).map V.int)):=upd_same
   generalize upd H1 wa (.lst ((l++tw).map V.int))=H2 at s2 wa2 ⊢
   have l2:=l1.same s2
   obtain ⟨bx,hb⟩:=l2.book.ob
   walk_at "w";refine r_fld (a:=0) ?_
   walk_at "w";refine r_fld (a:=0) ?_
   walk_at "w";refine ⟨p,_,dx,_,_,rfl,s2 _ _ ho,T.cl_Learner,T.na_Learner_book,hf.book,?_⟩
   refine ⟨_,_,bx,_,_,rfl,hb,T.cl_Book,T.na_Book_noted,bkf_noted _ _,?_⟩
   refine ⟨L.nb,rfl,.inr ⟨_,.inl l2.book.noted⟩,?_⟩
   walk_at "w";refine ⟨wa,_,rfl,.inl ⟨SqL.of wa2,fun tp htp=>?_⟩⟩
   have s3:Same H2 (upd H2 tp (.tup ((l++tw).map V.int))):=Same.upd_new htp
   have tp3:(upd H2 tp (.tup ((l++tw).map V.int))) tp=some (.tup (((l++tw).map (Sum.inl:Int→Key)).map kV)):=by rw [upd_same,kv_inl]
   generalize upd H2 tp (.tup ((l++tw).map V.int))=H3 at s3 tp3 ⊢
   have l3:=l2.same s3
   refine ⟨_,DGet.t (k:=(l++tw).map Sum.inl) l3.book.noted tp3,?_⟩
   rw [valV_bkv]
   have st3:LStep p L L H H3:=st1.trans (.same (s2.trans s3))
   walk_at "w";refine ⟨rfl,?_⟩
   walk_at "w";cases hs:saidO kn (l++tw) with
   | none =>
    refine r_iteP (by simp) ?_
    walk_at "w";refine q2 _ _ _ wa (gap_at hp'.2 ht hs) hp' l3 st3 ?_ (s3 _ _ wa2)
    cases hh:H wa with
    | none=>rfl
    | some o =>
     have:wa∉mutL p L:=fun z=>l1.notOwn hwa (own_mut z)
     rw [st1.kp _ _ this hh] at hwa;cases hwa
   | some b =>
    refine r_iteN (by simp) ?_
    walk_at "w";have hra3:H3 ra=some (.lst (r'.map V.bl)):=s3 _ _ (s2 _ _ hra1)
    refine ⟨.inl ⟨rfl,_,SqL.of hra3⟩,?_⟩
    walk_at "w";refine ⟨ra,_,_,rfl,rfl,hra3,big6 (by rw [List.length_map];have:=sm.ts;omega),?_⟩
    obtain ⟨m1,m2⟩:=row_more hp'.2 ht hs
    obtain ⟨l4,st4⟩:=l3.setR hra (r'++[b])
    rw [List.set_set] at l4
    rw [List.map_append] at l4 st4
    exact ⟨r'++[b],by simp,⟨m1,m2⟩,l4,st3.trans st4,_,_,rfl⟩
  ·have hge:r'.length=tails.length:=by
    have:=hp'.1
    have hc':¬ r'.length < tails.length:=by simpa using hc
    omega
   obtain ⟨g1,g2⟩:=row_end hp'.2 hge
   walk_at "w";exact q1 _ g1 (by rw [← g2];exact l1) st1
theorem sc_Learner_question:FnScope ["self","word"] ["self"] (defScope s_Learner_question):=⟨rfl,rfl,rfl,by decide +kernel,rfl,by decide +kernel,by decide +kernel⟩
theorem b_Learner_question (T:Txt K mg t):Binds K t.fd_Learner_question ["self"] []:=T.F_Learner_question.binds fun _ _ _ _ _ _ us hl=>by obtain ⟨_,rfl⟩:=len_1 hl;rfl
def sp_Learner_question (K:PySem.W.Frag) (C CB:Addr):Sp:=fun vs H Q _=>∃ (p:Addr) (d:Int) (L:LA) (kn:Bk) (heads tails:List (List Int)) (rows:List (List Bool)) (f:Nat),vs=[.ref p]∧LrnAt C CB H p d L kn heads tails rows f∧RowsOk d kn heads tails rows f∧Small heads tails kn∧(∀ l∈linesOf d heads,l.length≤1000) ∧
 (nextQ d kn heads tails=none→∀ H' rows',LrnAt C CB H' p d L kn heads tails rows' rows'.length→RowsOk d kn heads tails rows' rows'.length→LStep p L L H H'→Q .non H') ∧
 (∀ w,nextQ d kn heads tails=some w→∀ H' rows' f' a,LrnAt C CB H' p d L kn heads tails rows' f'→RowsOk d kn heads tails rows' f'→LStep p L L H H'→H a=none→H' a=some (.lst (w.map V.int))→Q (.ref a) H')
theorem ok_Learner_question (T:Txt K mg t):FnOk P w K mg base CX0 2 t.f_Learner_question t.fd_Learner_question ["self"] (sp_Learner_question K t.C_Learner t.C_Book):=by
 refine T.F_Learner_question.ok sc_Learner_question (fun vs H Q E h=>?_) (fun cdv A outer s H vs Q E hr h=>?_)
 ·obtain ⟨p,d,L,kn,heads,tails,rows,f,rfl,_⟩:=h
  rfl
 ·obtain ⟨p,d,L,kn,heads,tails,rows,f,rfl,lr,R,sm,hll,q1,q2⟩:=h
  refine ⟨_,pss_cons (ps_while PassesOwn.never (pt_cmpR op_lt (pe_fldK K (pv 0) rfl) (pe_callB (call_len_seqK K) rfl T.m_len PySem.boot_len (pa_cons (pe_fldK K (pv 0) rfl) (pa_nil))) (nomark _))
 (pss_cons (ps_set (i:=1) sc_Learner_question.nd rfl (Or.inl rfl) (pe_meth (pv 0) T.cl_Learner T.me_Learner_gap (ok_Learner_gap T) (hr.mono (by decide)) (b_Learner_gap T) .nil pass0 (pa_cons (pe_ix (ix_listK K) (pe_fldK K (pv 0) rfl) (pe_fldK K (pv 0) rfl) (fun _ _=>rfl)) (pa_cons (pe_ix (ix_listK K) (pe_fldK K (pv 0) rfl) (pe_fldK K (pv 0) rfl) (fun _ _=>rfl)) (pa_nil)))))
 (pss_cons (ps_if (pt_cmpR op_notN (pv 1) (pe_non) (nomark _))
 (pss_one (ps_ret (pv 1)))
 (pss_nil))
 (pss_one (ps_fldaugK K (pv 0) (pe_int) in_add)))))
 (pss_one (ps_ret (pe_non))),?_⟩
  walk_at "w";refine ⟨fun m σ H'=>∃ rows' f',m=rows'.length - f'∧LrnAt t.C_Learner t.C_Book H' p d L kn heads tails rows' f'∧RowsOk d kn heads tails rows' f'∧LStep p L L H H'∧∃ k1,σ=[some (.ref p),k1],⟨_,rows,f,rfl,lr,R,.same (Same.refl _),_,rfl⟩,?_⟩
  rintro m σ H1 ⟨rows',f',rfl,l1,R1,st1,k1,rfl⟩
  obtain ⟨dx,fs,ho,hf⟩:=l1.ob
  have ell:(L.lA.map V.ref).length=rows'.length:=by rw [List.length_map,l1.lnw.len,R1.len]
  walk_at "w";refine ⟨_,rfl,p,_,dx,_,_,rfl,ho,T.cl_Learner,T.na_Learner_filled,hf.filled,?_⟩
  walk_at "w";refine ⟨_,rfl,p,_,dx,_,_,rfl,ho,T.cl_Learner,T.na_Learner_lines,hf.lines,?_⟩
  walk_at "w";refine ⟨_,_,rfl,.inl (SqL.of l1.lns),?_⟩
  rw [ell]
  walk_at "w";refine r_ite (fun hc=>?_) (fun hc=>?_)
  ·have hlt:f' < rows'.length:=by simpa using hc
   have hltl:f' < (linesOf d heads).length:=by rw [← R1.len];exact hlt
   have hr:=List.getElem?_eq_getElem hlt
   have hl:=List.getElem?_eq_getElem hltl
   have hlw:=hll _ (List.getElem_mem hltl)
   generalize rows'[f']=r at hr
   generalize (linesOf d heads)[f']=l at hl hlw
   obtain ⟨la,la1,la2,la3⟩:=l1.lnw.get hl
   obtain ⟨ra,ra1,ra2,ra3⟩:=l1.rww.get hr
   refine ⟨fun σ' H'=>∃ r2,RowsOk d kn heads tails r2 (f'+1)∧LrnAt t.C_Learner t.C_Book H' p d L kn heads tails r2 (f'+1)∧r2.length=rows'.length∧LStep p L L H H'∧∃ k1,σ'=[some (.ref p),k1],fun σ' H' ⟨r2,a1,a2,a3,a4,a5⟩=>⟨r2.length - (f'+1),by omega,r2,f'+1,rfl,a2,a1,a4,a5⟩,?_⟩
   walk_at "w";refine ⟨p,dx,_,rfl,ho,hf.no _ (by decide +kernel),?_⟩
   walk_at "w";refine ⟨_,rfl,p,_,dx,_,_,rfl,ho,T.cl_Learner,T.na_Learner_lines,hf.lines,?_⟩
   walk_at "w";refine ⟨_,rfl,p,_,dx,_,_,rfl,ho,T.cl_Learner,T.na_Learner_filled,hf.filled,?_⟩
   refine r_ixL (SqL.of l1.lns) (atI_nat (j:=f') la2) ?_
   walk_at "w";refine ⟨_,rfl,p,_,dx,_,_,rfl,ho,T.cl_Learner,T.na_Learner_rows,hf.rows,?_⟩
   walk_at "w";refine ⟨_,rfl,p,_,dx,_,_,rfl,ho,T.cl_Learner,T.na_Learner_filled,hf.filled,?_⟩
   refine r_ixL (SqL.of l1.rws) (atI_nat (j:=f') ra2) ?_
   walk_at "w";refine ⟨p,d,L,kn,heads,tails,rows',f',f',la,ra,l,r,rfl,l1,la3,l1.sep la (wd_l (List.mem_of_getElem? la1)),ra1,hr,R1.row f' r l hr hl,sm,hlw,fun H2 hg l2 st2=>?_,fun H2 w r2 wa hg hp2 l2 st2 hwn hwa=>?_⟩
   ·walk_at "w";refine ⟨rfl,?_⟩
    walk_at "w";refine r_iteN rfl ?_
    obtain ⟨dx2,fs2,ho2,hf2⟩:=l2.ob
    walk_at "w";refine ⟨p,_,dx2,_,_,rfl,ho2,T.cl_Learner,T.na_Learner_filled,hf2.filled,?_⟩
    walk_at "w";refine ⟨_,_,rfl,rfl,dx2,fs2,ho2,by have:=hf2.len;omega,?_⟩
    have R2:=R1.set (r:=rowOf kn tails l) hl (by unfold rowOf;rw [List.length_map];exact Nat.le_refl _) (by
     have:=gap_none.mp hg
     unfold rowOf
     rw [List.length_map,List.take_length,List.map_map]
     refine List.map_congr_left fun t ht=>?_
     obtain ⟨b,hb⟩:=this t ht
     show some ((saidO kn (l++t)).getD false)=_
     rw [hb];rfl) (by intro z;omega)
    have R3:=R2.succ (by rw [List.length_set];exact hlt) (fun q hq=>by
     rw [List.getElem?_set_self hlt] at hq;cases hq
     unfold rowOf;rw [List.length_map])
    obtain ⟨l3,st3⟩:=l2.setF (dx:=dx2) (hf2.setF (f'+1))
    refine ⟨_,R3,?_,by rw [List.length_set],st1.trans (st2.trans ?_),_,rfl⟩
    ·exact l3
    ·exact st3
   ·walk_at "w";refine ⟨rfl,?_⟩
    walk_at "w";refine r_iteP rfl ?_
    walk_at "w";have hwH:H wa=none:=by
     cases hh:H wa with
     | none=>rfl
     | some o=>rw [st1.kp wa o (fun z=>l1.notOwn hwn (own_mut z)) hh] at hwn;cases hwn
    exact q2 w (R1.next hl hg) H2 _ f' wa l2 (R1.set hl hp2.1 hp2.2 (by intro z;omega)) (st1.trans st2) hwH hwa
  ·have hge:f'=rows'.length:=by
    have:=R1.fle
    have hc':¬ f' < rows'.length:=by simpa using hc
    omega
   subst hge
   walk_at "w";exact q1 R1.all.1 H1 rows' l1 R1 st1
theorem sc_Learner_heads_by_row:FnScope ["self","numbers","number","row"] ["self"] (defScope s_Learner_heads_by_row):=⟨rfl,rfl,rfl,by decide +kernel,rfl,by decide +kernel,by decide +kernel⟩
theorem b_Learner_heads_by_row (T:Txt K mg t):Binds K t.fd_Learner_heads_by_row ["self"] []:=T.F_Learner_heads_by_row.binds fun _ _ _ _ _ _ us hl=>by obtain ⟨_,rfl⟩:=len_1 hl;rfl
def numF:List (List Bool)→Nat→List (List Bool×V)
 | [],_=>[]
 | r :: rs,i=>(r,.int (i:Int)) :: numF rs (i+1)
theorem numF_len:∀ (rs:List (List Bool)) (i:Nat),(numF rs i).length=rs.length
 | [],_=>rfl
 | r :: rs,i=>by unfold numF;rw [List.length_cons,List.length_cons,numF_len]
theorem numF_snoc:∀ (rs:List (List Bool)) (r:List Bool) (i:Nat),numF (rs++[r]) i=numF rs i++[(r,.int ((i+rs.length:Nat):Int))]
 | [],r,i=>rfl
 | a :: rs,r,i=>by
  show (a,V.int (i:Int)) :: numF (rs++[r]) (i+1)=_
  rw [numF_snoc rs r (i+1)]
  show _=(a,V.int (i:Int)) :: (numF rs (i+1)++_)
  rw [List.length_cons,show i+1+rs.length=i+(rs.length+1) by omega]
theorem valV_numF (r:List Bool):∀ (rs:List (List Bool)) (i:Nat),valV (numF rs i) r=if r∈rs then some (.int ((i+rs.findIdx (fun x=>decide (x=r)):Nat):Int)) else none
 | [],i=>rfl
 | a :: rs,i=>by
  show valV ((a,V.int (i:Int)) :: numF rs (i+1)) r=_
  by_cases e:a=r
  ·rw [valV_pos (p:=(a,V.int (i:Int))) e,List.findIdx_cons]
   simp [e]
  ·rw [valV_neg (p:=(a,V.int (i:Int))) e,valV_numF r rs (i+1),List.findIdx_cons]
   have h:¬ r=a:=fun z=>e z.symm
   simp only [List.mem_cons,h,false_or,decide_eq_false e,cond_false]
   split
   ·congr 3;omega
   ·rfl
theorem valV_numK (kn:Bk) (heads tails:List (List Int)) (l:List Int):valV (numF (headRows kn heads tails) 0) (rowOf kn tails l)=if rowOf kn tails l∈headRows kn heads tails then some (.int (ixR kn heads tails l)) else none:=by
 rw [valV_numF,Nat.zero_add];rfl
def sp_Learner_heads_by_row (P:Program) (w:World) (C CB:Addr):Sp:=fun vs H Q _=>∃ (p:Addr) (d:Int) (L:LA) (kn:Bk) (heads tails:List (List Int)) (rows:List (List Bool)) (f:Nat),vs=[.ref p]∧LrnAt C CB H p d L kn heads tails rows f∧rows=(linesOf d heads).map (rowOf kn tails)∧LI d kn heads tails∧heads.length≤400∧1≤d∧d≤6 ∧
 ∀ H' nb,Same H H'→H nb=none→DG (tbKD P w) H' nb (numF (headRows kn heads tails) 0)→Q (.ref nb) H'
theorem ok_Learner_heads_by_row (T:Txt K mg t):FnOk P w K mg base CX0 1 t.f_Learner_heads_by_row t.fd_Learner_heads_by_row ["self"] (sp_Learner_heads_by_row P w t.C_Learner t.C_Book):=by
 refine T.F_Learner_heads_by_row.ok sc_Learner_heads_by_row (fun vs H Q E h=>?_) (fun cdv A outer s H vs Q E hr h=>?_)
 ·obtain ⟨p,d,L,kn,heads,tails,rows,f,rfl,_⟩:=h
  rfl
 ·obtain ⟨p,d,L,kn,heads,tails,rows,f,rfl,lr,hrows,I,hh4,hd1,hd6,q⟩:=h
  obtain ⟨dx,fs,ho,hf⟩:=lr.ob
  refine ⟨_,pss_cons (ps_set (i:=1) sc_Learner_heads_by_row.nd rfl (Or.inl rfl) (pe_dnewG (tbKD P w)))
 (pss_cons (ps_for PassesOwn.never rfl (pi_enumK K rfl T.m_enumerate (pa_cons (pe_sliceN K (pe_fldK K (pv 0) rfl) (pe_op op_add (pe_fldK K (pv 0) rfl) (pe_int))) (pa_nil))) (pg_tupK K (n:=2) rfl (pgs_cons (pg_name (i:=2) sc_Learner_heads_by_row.nd rfl (Or.inl rfl)) (pgs_cons (pg_name (i:=3) sc_Learner_heads_by_row.nd rfl (Or.inl rfl)) (pgs_nil))))
 (pss_one (ps_gput (tbKD P w) hr.u16 (pv 1) (pe_callTy (call_tuple_ofK K) rfl T.m_tuple boot_tuple (pa_cons (pv 3) (pa_nil))) (pv 2) rfl)))
 (pss_one (ps_ret (pv 1)))),?_⟩
  walk_at "w";intro nb hnb dg0
  have s1:Same H (upd H nb (.ext (DGAt (tbKD P w) nb []))):=Same.upd_new hnb
  generalize upd H nb (.ext (DGAt (tbKD P w) nb []))=H1 at s1 dg0 ⊢
  have l1:=lr.same s1
  walk_at "w";refine ⟨_,rfl,p,_,dx,_,_,rfl,s1 _ _ ho,T.cl_Learner,T.na_Learner_rows,hf.rows,?_⟩
  walk_at "w";refine ⟨_,rfl,p,_,dx,_,_,rfl,s1 _ _ ho,T.cl_Learner,T.na_Learner_doors,hf.doors,?_⟩
  walk_at "w";have hlen:(L.rA.map V.ref).length=heads.length * (d.toNat+1):=by rw [List.length_map,lr.rww.len,hrows,List.length_map,linesOf_len]
  refine ⟨_,_,d.toNat+1,rfl,by congr 1;omega,by omega,SqL.of l1.rws,fun sl hsl=>?_⟩
  haveI:Inhabited V:=⟨.non⟩
  rw [stepV_get (m:=heads.length) (by omega) hlen]
  have hrw:∀ (i:Nat) (h:List Int),heads[i]?=some h→∃ a,(L.rA.map V.ref).getD ((d.toNat+1) * i) default=.ref a∧H1 a=some (.lst ((rowOf kn tails h).map V.bl)):=fun i h hi=>by
   have e1:rows[i * (d.toNat+1)]?=some (rowOf kn tails h):=by rw [hrows,List.getElem?_map,lines_head hi];rfl
   obtain ⟨a,_,a2,a3⟩:=l1.rww.get e1
   exact ⟨a,by rw [Nat.mul_comm,List.getD_eq_getElem?_getD,a2];rfl,a3⟩
  generalize hxs:(List.range heads.length).map (fun k=>(L.rA.map V.ref).getD ((d.toNat+1) * k) default)=xs
  have s2:Same H1 (upd H1 sl (.lst xs)):=Same.upd_new hsl
  have sl2:(upd H1 sl (.lst xs)) sl=some (.lst xs):=upd_same
  have nsn:sl≠nb:=by
   obtain ⟨ys,e,_⟩:=dg0
   exact Ne.symm (ne_of_none e hsl)
  have dg2:=dg0.same s2
  have slH:H sl=none:=s1.free hsl
  generalize upd H1 sl (.lst xs)=H2 at s2 sl2 dg2 ⊢
  have hxl:xs.length=heads.length:=by rw [← hxs];simp
  walk_at "w";refine ⟨sl,rfl,⟨_,SqL.of sl2⟩,?_⟩
  refine for_enum (xs:=xs) (fun i σ H'=>Same H H'∧H' sl=some (.lst xs)∧DG (tbKD P w) H' nb (numF ((headRows kn heads tails).take i) 0)∧∃ k2 k3,σ=[some (.ref p),some (.ref nb),k2,k3]) ⟨s1.trans s2,sl2,dg2,_,_,rfl⟩ (fun i σ H' _ pp=>SqL.of pp.2.1) (fun i x σ H3 tp hx pp htp=>?_) (fun σ H3 pp=>?_)
  ·obtain ⟨s3,sl3,dg3,k2,k3,rfl⟩:=pp
   have hi:i < heads.length:=by rw [← hxl];exact (List.getElem?_eq_some_iff.mp hx).1
   have hhi:=List.getElem?_eq_getElem hi
   obtain ⟨a,ha1,ha2⟩:=hrw i _ hhi
   have ex:x=.ref a:=by
    rw [← hxs,List.getElem?_map,List.getElem?_range hi] at hx
    rw [← ha1];exact (Option.some.inj hx).symm
   subst ex
   have haH:H a=some (.lst ((rowOf kn tails heads[i]).map V.bl)):=by
    have e1:rows[i * (d.toNat+1)]?=some (rowOf kn tails heads[i]):=by rw [hrows,List.getElem?_map,lines_head hhi];rfl
    obtain ⟨a',_,a2,a3⟩:=lr.rww.get e1
    have:a=a':=by
     rw [Nat.mul_comm,List.getD_eq_getElem?_getD,a2] at ha1
     cases ha1;rfl
    rw [this];exact a3
   have hrow:(headRows kn heads tails)[i]?=some (rowOf kn tails heads[i]):=by unfold headRows;rw [List.getElem?_map,hhi];rfl
   have hrl:(headRows kn heads tails).length=heads.length:=by simp [headRows]
   have hne:rowOf kn tails heads[i]∉(headRows kn heads tails).take i:=fun z=>by
    obtain ⟨j,hj⟩:=List.getElem?_of_mem z
    have hji:j < i:=by
     have:=(List.getElem?_eq_some_iff.mp hj).1
     rw [List.length_take] at this;omega
    rw [List.getElem?_take_of_lt hji] at hj
    have hjl:j < heads.length:=by omega
    have e:(headRows kn heads tails)[j]?=some (rowOf kn tails heads[j]):=by unfold headRows;rw [List.getElem?_map,List.getElem?_eq_getElem hjl];rfl
    rw [e] at hj
    exact I.rne hji (List.getElem?_eq_getElem hjl) hhi (Option.some.inj hj)
   generalize rowOf kn tails heads[i]=r at haH hrow hne
   have ntp:∀ b o,H3 b=some o→(upd H3 tp (.tup [.int (i:Int),.ref a])) b=some o:=fun b o e=>Same.upd_new htp b o e
   refine ⟨tp,_,rfl,SqT.of upd_same,rfl,_,_,rfl,?_⟩
   have s4:Same H3 (upd H3 tp (.tup [.int (i:Int),.ref a])):=Same.upd_new htp
   generalize upd H3 tp (.tup [.int (i:Int),.ref a])=H4 at s4 ⊢
   walk_at "w";refine ⟨_,_,rfl,?_⟩
   walk_at "w";refine ⟨rfl,?_⟩
   walk_at "w";refine ⟨a,_,rfl,.inl ⟨SqL.of (s4 _ _ (s3 _ _ haH)),fun kt hkt=>?_⟩⟩
   have s5:Same H4 (upd H4 kt (.tup (r.map V.bl))):=Same.upd_new hkt
   have kt5:(upd H4 kt (.tup (r.map V.bl))) kt=some (.tup (r.map V.bl)):=upd_same
   generalize upd H4 kt (.tup (r.map V.bl))=H5 at s5 kt5 ⊢
   refine ⟨nb,kt,r,_,rfl,rfl,kt5,dg3.same (s4.trans s5),big6 (by rw [numF_len,List.length_take];omega),fun H6 k6 dg6=>?_⟩
   rw [putK_new _ (by rw [valV_numF,if_neg hne])] at dg6
   have nnb:∀ b o,H b=some o→b≠nb:=fun b o e=>ne_of_none e hnb
   refine ⟨fun b o e=>by rw [k6 b (nnb b o e)];exact s5 _ _ (s4 _ _ (s3 _ _ e)),by rw [k6 sl nsn];exact s5 _ _ (s4 _ _ sl3),?_,_,_,rfl⟩
   rw [take_snocT hrow,numF_snoc,List.length_take,hrl,Nat.min_eq_left (by omega),Nat.zero_add]
   exact dg6
  ·obtain ⟨s3,sl3,dg3,k2,k3,rfl⟩:=pp
   rw [hxl,List.take_of_length_le (by simp [headRows])] at dg3
   walk_at "w";exact q H3 nb s3 hnb dg3
theorem sc_Learner_unlike_edge:FnScope ["self","numbers","line","row"] ["self"] (defScope s_Learner_unlike_edge):=⟨rfl,rfl,rfl,by decide +kernel,rfl,by decide +kernel,by decide +kernel⟩
theorem b_Learner_unlike_edge (T:Txt K mg t):Binds K t.fd_Learner_unlike_edge ["self"] []:=T.F_Learner_unlike_edge.binds fun _ _ _ _ _ _ us hl=>by obtain ⟨_,rfl⟩:=len_1 hl;rfl
def sp_Learner_unlike_edge (K:PySem.W.Frag) (C CB:Addr):Sp:=fun vs H Q _=>∃ (p:Addr) (d:Int) (L:LA) (kn:Bk) (heads tails:List (List Int)) (rows:List (List Bool)) (f:Nat),vs=[.ref p]∧LrnAt C CB H p d L kn heads tails rows f∧RowsOk d kn heads tails rows f∧Small heads tails kn∧LI d kn heads tails∧1≤d∧d≤6 ∧
 ((nextQ d kn heads tails≠none∨looseOf d kn heads tails=none)→∀ H' rows' f',LrnAt C CB H' p d L kn heads tails rows' f'→RowsOk d kn heads tails rows' f'→LStep p L L H H'→Q .non H') ∧
 (∀ e,nextQ d kn heads tails=none→looseOf d kn heads tails=some e→∀ H' rows' f' a,LrnAt C CB H' p d L kn heads tails rows' f'→RowsOk d kn heads tails rows' f'→LStep p L L H H'→a∈L.lA→H' a=some (.lst (e.map V.int))→Q (.ref a) H')
theorem ok_Learner_unlike_edge (T:Txt K mg t):FnOk P w K mg base CX0 3 t.f_Learner_unlike_edge t.fd_Learner_unlike_edge ["self"] (sp_Learner_unlike_edge K t.C_Learner t.C_Book):=by
 refine T.F_Learner_unlike_edge.ok sc_Learner_unlike_edge (fun vs H Q E h=>?_) (fun cdv A outer s H vs Q E hr h=>?_)
 ·obtain ⟨p,d,L,kn,heads,tails,rows,f,rfl,_⟩:=h
  rfl
 ·obtain ⟨p,d,L,kn,heads,tails,rows,f,rfl,lr,R,sm,I,hd1,hd6,q1,q2⟩:=h
  obtain ⟨dx,fs,ho,hf⟩:=lr.ob
  refine ⟨_,pss_cons (ps_if (pt_cmpR op_notN (pe_meth0 (pv 0) T.cl_Learner T.me_Learner_question (ok_Learner_question T) (hr.mono (by decide)) (b_Learner_question T) .nil pass0) (pe_non) (nomark _))
 (pss_one (ps_ret (pe_non)))
 (pss_nil))
 (pss_cons (ps_set (i:=1) sc_Learner_unlike_edge.nd rfl (Or.inl rfl) (pe_meth0 (pv 0) T.cl_Learner T.me_Learner_heads_by_row (ok_Learner_heads_by_row T) (hr.mono (by decide)) (b_Learner_heads_by_row T) .nil pass0))
 (pss_cons (ps_for PassesOwn.never rfl (pi_zip K rfl T.m_zip (pa_cons (pe_fldK K (pv 0) rfl) (pa_cons (pe_fldK K (pv 0) rfl) (pa_nil)))) (pg_tupK K (n:=2) rfl (pgs_cons (pg_name (i:=2) sc_Learner_unlike_edge.nd rfl (Or.inl rfl)) (pgs_cons (pg_name (i:=3) sc_Learner_unlike_edge.nd rfl (Or.inl rfl)) (pgs_nil))))
 (pss_one (ps_if (pt_cmp (pc_gnotin (tbKD P w) hr.u16 (pe_callTy (call_tuple_ofK K) rfl T.m_tuple boot_tuple (pa_cons (pv 3) (pa_nil))) (pv 1)))
 (pss_one (ps_ret (pv 2)))
 (pss_nil))))
 (pss_one (ps_ret (pe_non))))),?_⟩
  walk_at "w";refine ⟨p,dx,_,rfl,ho,hf.no _ (by decide +kernel),?_⟩
  refine ⟨p,d,L,kn,heads,tails,rows,f,rfl,lr,R,sm,fun l hl=>by have:=(I.lok hl).2;have:=sm.hs;omega,fun hq H1 rows1 l1 R1 st1=>?_,fun w hq H1 rows1 f1 a l1 R1 st1 _ _=>?_⟩
  ·walk_at "w";refine ⟨rfl,?_⟩
   walk_at "w";refine r_iteN rfl ?_
   obtain ⟨dx1,fs1,ho1,hf1⟩:=l1.ob
   have hrows:=R1.all.2
   walk_at "w";refine ⟨p,dx1,_,rfl,ho1,hf1.no _ (by decide +kernel),?_⟩
   refine ⟨p,d,L,kn,heads,tails,rows1,_,rfl,l1,hrows,I,sm.hs,hd1,hd6,fun H2 nb s2 hnb dg2=>?_⟩
   have l2:=l1.same s2
   have st2:LStep p L L H H2:=st1.trans (.same s2)
   walk_at "w";refine ⟨_,rfl,p,_,dx1,_,_,rfl,s2 _ _ ho1,T.cl_Learner,T.na_Learner_lines,hf1.lines,?_⟩
   walk_at "w";refine ⟨_,rfl,p,_,dx1,_,_,rfl,s2 _ _ ho1,T.cl_Learner,T.na_Learner_rows,hf1.rows,?_⟩
   walk_at "w";refine ⟨_,_,rfl,⟨_,SqL.of l2.lns⟩,⟨_,SqL.of l2.rws⟩,?_⟩
   have hLl:L.lA.length=(linesOf d heads).length:=l2.lnw.len
   have hRl:L.rA.length=(linesOf d heads).length:=by rw [l2.rww.len,R1.len]
   refine for_zip (xs:=L.lA.map V.ref) (ys:=L.rA.map V.ref) (fun i σ H'=>Same H2 H'∧(∀ l∈(linesOf d heads).take i,rowOf kn tails l∈headRows kn heads tails)∧∃ k2 k3,σ=[some (.ref p),some (.ref nb),k2,k3]) ⟨Same.refl _,by simp,_,_,rfl⟩ (by rw [List.length_map,List.length_map,hLl,hRl]) (fun i σ H' _ pp=>⟨SqL.of (pp.1 _ _ l2.lns),SqL.of (pp.1 _ _ l2.rws)⟩) (fun i x y σ H3 tp hx hy pp ht=>?_) (fun σ H3 pp=>?_)
   ·obtain ⟨s3,hall,k2,k3,rfl⟩:=pp
    have hx0:=ref_map_inv hx
    have hy0:=ref_map_inv hy
    clear hx hy
    obtain ⟨la,rfl,hla⟩:=hx0
    obtain ⟨ra,rfl,hra⟩:=hy0
    have hi:i < (linesOf d heads).length:=by rw [← hLl];exact (List.getElem?_eq_some_iff.mp hla).1
    have hl:=List.getElem?_eq_getElem hi
    have hmem:=List.getElem_mem hi
    have hr:rows1[i]?=some (rowOf kn tails (linesOf d heads)[i]):=by rw [hrows,List.getElem?_map,hl];rfl
    generalize (linesOf d heads)[i]=l at hl hr hmem
    have la2:=l2.lnw.row i la l hla hl
    have ra2:=l2.rww.row i ra _ hra hr
    have s4:Same H3 (upd H3 tp (.tup [.ref la,.ref ra])):=Same.upd_new ht
    refine ⟨tp,_,rfl,SqT.of upd_same,rfl,_,_,rfl,?_⟩
    generalize upd H3 tp (.tup [.ref la,.ref ra])=H4 at s4 ⊢
    have s24:=s3.trans s4
    walk_at "w";refine ⟨_,_,rfl,?_⟩
    walk_at "w";refine ⟨rfl,?_⟩
    walk_at "w";refine ⟨ra,_,rfl,.inl ⟨SqL.of (s24 _ _ ra2),fun kt hkt=>?_⟩⟩
    have s5:Same H4 (upd H4 kt (.tup ((rowOf kn tails l).map V.bl))):=Same.upd_new hkt
    have kt5:(upd H4 kt (.tup ((rowOf kn tails l).map V.bl))) kt=some (.tup ((rowOf kn tails l).map V.bl)):=upd_same
    generalize upd H4 kt (.tup ((rowOf kn tails l).map V.bl))=H5 at s5 kt5 ⊢
    have s25:=s24.trans s5
    walk_at "w";refine ⟨nb,kt,rowOf kn tails l,_,rfl,rfl,kt5,dg2.same s25,?_⟩
    rw [valV_numK]
    walk_at "w";by_cases hin:rowOf kn tails l∈headRows kn heads tails
    ·rw [if_pos hin]
     refine r_iteN rfl ?_
     walk_at "w";refine ⟨s25,fun u hu=>?_,_,_,rfl⟩
     rw [take_snocT hl] at hu
     rcases List.mem_append.mp hu with hu | hu
     ·exact hall u hu
     ·rw [List.mem_singleton.mp hu];exact hin
    ·rw [if_neg hin]
     refine r_iteP rfl ?_
     walk_at "w";have hloose:looseOf d kn heads tails=some l:=by
      unfold looseOf
      have e:linesOf d heads=(linesOf d heads).take i++l :: (linesOf d heads).drop (i+1):=by
       conv=>lhs;rw [← List.take_append_drop i (linesOf d heads)]
       rw [List.drop_eq_getElem_cons hi]
       congr 2
       rw [List.getElem?_eq_getElem hi] at hl
       exact Option.some.inj hl
      have h0:((linesOf d heads).take i).find? (fun l=>!decide (rowOf kn tails l∈headRows kn heads tails))=none:=by
       rw [List.find?_eq_none]
       intro u hu
       simpa using hall u hu
      rw [e,List.find?_append,h0,List.find?_cons_of_pos (by simpa using hin)]
      rfl
     exact q2 l hq hloose H5 rows1 _ la (l2.same s25) R1 (st2.trans (.same s25)) (List.mem_of_getElem? hla) (s25 _ _ la2)
   ·obtain ⟨s3,hall,k2,k3,rfl⟩:=pp
    rw [List.length_map,hLl,List.take_length] at hall
    walk_at "w";exact q1 (.inr (loose_none.mpr hall)) H3 rows1 _ (l2.same s3) R1 (st2.trans (.same s3))
  ·walk_at "w";refine ⟨rfl,?_⟩
   walk_at "w";refine r_iteP rfl ?_
   walk_at "w";exact q1 (.inl (by rw [hq];intro z;cases z)) H1 rows1 f1 l1 R1 st1
theorem sc_Learner_add_unlike_edges:FnScope ["self","edge"] ["self"] (defScope s_Learner_add_unlike_edges):=⟨rfl,rfl,rfl,by decide +kernel,rfl,by decide +kernel,by decide +kernel⟩
theorem b_Learner_add_unlike_edges (T:Txt K mg t):Binds K t.fd_Learner_add_unlike_edges ["self"] []:=T.F_Learner_add_unlike_edges.binds fun _ _ _ _ _ _ us hl=>by obtain ⟨_,rfl⟩:=len_1 hl;rfl
def sp_Learner_add_unlike_edges (K:PySem.W.Frag) (C CB:Addr):Sp:=fun vs H Q _=>∃ (p:Addr) (d:Int) (L:LA) (kn:Bk) (heads tails:List (List Int)) (rows:List (List Bool)) (f:Nat),vs=[.ref p]∧LrnAt C CB H p d L kn heads tails rows f∧RowsOk d kn heads tails rows f∧Small heads tails kn∧LI d kn heads tails∧1≤d∧d≤6 ∧
 (∀ hs,LI d kn hs tails→hs.length≤400) ∧
 (∀ H' L' rows' f',LrnAt C CB H' p d L' kn (grow d kn tails heads) tails rows' f'→RowsOk d kn (grow d kn tails heads) tails rows' f'→LI d kn (grow d kn tails heads) tails→(nextQ d kn (grow d kn tails heads) tails≠none∨looseOf d kn (grow d kn tails heads) tails=none)→LStep p L L' H H'→Q .non H')
structure GrSt (C CB:Addr) (H H1:Hp) (p:Addr) (d:Int) (L:LA) (kn:Bk) (heads tails:List (List Int)) (n:Nat) (L1:LA) (hs:List (List Int)) (rows1:List (List Bool)) (f1:Nat):Prop where
 g:grow d kn tails heads=growN d kn tails n hs
 n4:401≤n+hs.length
 I:LI d kn hs tails
 l:LrnAt C CB H1 p d L1 kn hs tails rows1 f1
 R:RowsOk d kn hs tails rows1 f1
 st:LStep p L L1 H H1
def GrEnd (C CB:Addr) (H:Hp) (p:Addr) (d:Int) (L:LA) (kn:Bk) (heads tails:List (List Int)) (v:V) (H1:Hp):Prop:=v=.non∧∃ n L1 hs rows1 f1,GrSt C CB H H1 p d L kn heads tails n L1 hs rows1 f1∧(nextQ d kn hs tails≠none∨looseOf d kn hs tails=none)
def GrEdge (C CB:Addr) (H:Hp) (p:Addr) (d:Int) (L:LA) (kn:Bk) (heads tails:List (List Int)) (m:Nat) (v:V) (H1:Hp):Prop:=∃ a e n L1 hs rows1 f1,GrSt C CB H H1 p d L kn heads tails n L1 hs rows1 f1∧v=.ref a∧m=401 - hs.length∧a∈L1.lA∧H1 a=some (.lst (e.map V.int))∧nextQ d kn hs tails=none∧looseOf d kn hs tails=some e
theorem ok_Learner_add_unlike_edges (T:Txt K mg t):FnOk P w K mg base CX0 4 t.f_Learner_add_unlike_edges t.fd_Learner_add_unlike_edges ["self"] (sp_Learner_add_unlike_edges K t.C_Learner t.C_Book):=by
 refine T.F_Learner_add_unlike_edges.ok sc_Learner_add_unlike_edges (fun vs H Q E h=>?_) (fun cdv A outer s H vs Q E hr h=>?_)
 ·obtain ⟨p,d,L,kn,heads,tails,rows,f,rfl,_⟩:=h
  rfl
 ·obtain ⟨p,d,L,kn,heads,tails,rows,f,rfl,lr,R,sm,I,hd1,hd6,bnd,q⟩:=h
  obtain ⟨dx,fs,ho,hf⟩:=lr.ob
  have smh:∀ hs,LI d kn hs tails→Small hs tails kn:=fun hs Ih=>⟨bnd hs Ih,sm.ts,sm.tw,sm.ks⟩
  have h0:1≤heads.length:=List.length_pos_of_mem I.mem0
  refine ⟨_,pss_cons (ps_join (ps_set (i:=1) sc_Learner_add_unlike_edges.nd rfl (Or.inl rfl) (pe_meth0 (pv 0) T.cl_Learner T.me_Learner_unlike_edge (ok_Learner_unlike_edge T) (hr.mono (by decide)) (b_Learner_unlike_edge T) .nil pass0)))
 (pss_one (ps_while PassesOwn.never (pt_cmpR op_notN (pv 1) (pe_non) (nomark _))
 (pss_cons (ps_expr (pe_meth (pv 0) T.cl_Learner T.me_Learner_add_head (ok_Learner_add_head T) (hr.mono (by decide)) (b_Learner_add_head T) .nil pass0 (pa_cons (pv 1) (pa_nil))))
 (pss_one (ps_join (ps_set (i:=1) sc_Learner_add_unlike_edges.nd rfl (Or.inl rfl) (pe_meth0 (pv 0) T.cl_Learner T.me_Learner_unlike_edge (ok_Learner_unlike_edge T) (hr.mono (by decide)) (b_Learner_unlike_edge T) .nil pass0))))))),?_⟩
  walk_at "w";refine r_join (fun σ' H1=>∃ v,σ'=[some (.ref p),some v]∧(GrEnd t.C_Learner t.C_Book H p d L kn heads tails v H1∨∃ m,GrEdge t.C_Learner t.C_Book H p d L kn heads tails m v H1)) ?_ ?_
  ·walk_at "w";refine ⟨p,dx,_,rfl,ho,hf.no _ (by decide +kernel),?_⟩
   refine ⟨p,d,L,kn,heads,tails,rows,f,rfl,lr,R,sm,I,hd1,hd6,fun hc H1 rows1 f1 l1 R1 st1=>?_,fun e hq hlo H1 rows1 f1 a l1 R1 st1 hal hae=>?_⟩
   ·walk_at "w";exact ⟨.non,rfl,.inl ⟨rfl,400,L,heads,rows1,f1,⟨rfl,by omega,I,l1,R1,st1⟩,hc⟩⟩
   ·walk_at "w";exact ⟨.ref a,rfl,.inr ⟨_,a,e,400,L,heads,rows1,f1,⟨rfl,by omega,I,l1,R1,st1⟩,rfl,rfl,hal,hae,hq,hlo⟩⟩
  rintro σ' H1 ⟨v,rfl,hv⟩
  walk_at "w";refine ⟨fun m σ H1=>∃ v,σ=[some (.ref p),some v]∧((m=0∧GrEnd t.C_Learner t.C_Book H p d L kn heads tails v H1)∨GrEdge t.C_Learner t.C_Book H p d L kn heads tails m v H1),?_,?_⟩
  ·rcases hv with hv | ⟨m,hv⟩
   ·exact ⟨0,v,rfl,.inl ⟨rfl,hv⟩⟩
   ·exact ⟨m,v,rfl,.inr hv⟩
  clear hv
  rintro m σ H2 ⟨v,rfl,hv⟩
  walk_at "w";refine ⟨rfl,?_⟩
  walk_at "w";rcases hv with ⟨_,rfl,n,L1,hs,rows1,f1,G,hc⟩ | ⟨a,e,n,L1,hs,rows1,f1,G,rfl,rfl,hal,hae,hq,hlo⟩
  ·refine r_iteN rfl ?_
   have ee:grow d kn tails heads=hs:=G.g.trans (growN_stop hc n)
   have:=q H2 L1 rows1 f1
   rw [ee] at this
   exact this G.l G.R G.I hc G.st
  ·refine r_iteP rfl ?_
   have Ig:=G.I.grown hq hlo
   have hb:=bnd _ Ig
   rw [List.length_append,List.length_singleton] at hb
   have hn4:=G.n4
   obtain ⟨k,rfl⟩:∃ k,n=k+1:=⟨n - 1,by omega⟩
   refine ⟨fun σ' H3=>∃ v,σ'=[some (.ref p),some v]∧(GrEnd t.C_Learner t.C_Book H p d L kn heads tails v H3∨∃ m',m' < 401 - hs.length∧GrEdge t.C_Learner t.C_Book H p d L kn heads tails m' v H3),?_,?_⟩
   ·rintro σ' H3 ⟨v,rfl,hv⟩
    rcases hv with hv | ⟨m',hm,hv⟩
    ·exact ⟨0,by omega,v,rfl,.inl ⟨rfl,hv⟩⟩
    ·exact ⟨m',hm,v,rfl,.inr hv⟩
   obtain ⟨dx2,fs2,ho2,hf2⟩:=G.l.ob
   have hel:=loose_some hlo
   walk_at "w";refine ⟨p,dx2,_,rfl,ho2,hf2.no _ (by decide +kernel),?_⟩
   walk_at "w";refine ⟨p,d,L1,kn,hs,tails,rows1,f1,a,e,rfl,G.l,hae,G.l.sep a (wd_l hal),by omega,hd6,by omega,by have:=(G.I.lok hel.1).2;omega,G.R.len,fun H3 L3 l3 st3=>?_⟩
   have R3:=G.R.head e
   have st3':LStep p L1 L3 H2 H3:=⟨st3.kp,fun b hb=>by
    rcases st3.own b hb with h | h | h
    ·exact .inl h
    ·exact .inl (by rw [h];exact own_wd (wd_l hal))
    ·exact .inr h,st3.mu⟩
   have stL:=G.st.trans st3'
   have eg:grow d kn tails heads=growN d kn tails k (hs++[e]):=G.g.trans (growN_step hq hlo k)
   have e4:401≤k+(hs++[e]).length:=by rw [List.length_append,List.length_singleton];omega
   obtain ⟨dx3,fs3,ho3,hf3⟩:=l3.ob
   walk_at "w";refine r_join (fun σ' H1=>∃ v,σ'=[some (.ref p),some v]∧(GrEnd t.C_Learner t.C_Book H p d L kn heads tails v H1∨∃ m',m' < 401 - hs.length∧GrEdge t.C_Learner t.C_Book H p d L kn heads tails m' v H1)) ?_ ?_
   ·walk_at "w";refine ⟨p,dx3,_,rfl,ho3,hf3.no _ (by decide +kernel),?_⟩
    refine ⟨p,d,L3,kn,_,tails,_,_,rfl,l3,R3,smh _ Ig,Ig,hd1,hd6,fun hc H4 rows4 f4 l4 R4 st4=>?_,fun e' hq' hlo' H4 rows4 f4 a' l4 R4 st4 hal' hae'=>?_⟩
    ·walk_at "w";exact ⟨.non,rfl,.inl ⟨rfl,k,L3,_,rows4,f4,⟨eg,e4,Ig,l4,R4,stL.trans st4⟩,hc⟩⟩
    ·walk_at "w";exact ⟨.ref a',rfl,.inr ⟨_,by rw [List.length_append,List.length_singleton];omega,a',e',k,L3,_,rows4,f4,⟨eg,e4,Ig,l4,R4,stL.trans st4⟩,rfl,rfl,hal',hae',hq',hlo'⟩⟩
   rintro σ' H4 ⟨v,rfl,hv⟩
   walk_at "w";exact ⟨v,rfl,hv⟩
theorem sc_Learner_answer:FnScope ["self","lit","word"] ["self","lit"] (defScope s_Learner_answer):=⟨rfl,rfl,rfl,by decide +kernel,rfl,by decide +kernel,by decide +kernel⟩
theorem b_Learner_answer (T:Txt K mg t):Binds K t.fd_Learner_answer ["self","lit"] []:=T.F_Learner_answer.binds fun _ _ _ _ _ _ us hl=>by obtain ⟨_,_,rfl⟩:=len_2 hl;rfl
def sp_Learner_answer (K:PySem.W.Frag) (C CB CN:Addr):Sp:=fun vs H Q E=>∃ (p:Addr) (d:Int) (L:LA) (kn:Bk) (heads tails:List (List Int)) (lit:Bool),vs=[.ref p,.bl lit]∧LS C CB H p d L kn heads tails∧Small heads tails kn∧kn.length < 100000∧1≤d∧d≤6 ∧
 (∀ w,nextQ d kn heads tails=some w→(∀ hs,LI d (kn++[(w,lit)]) hs tails→hs.length≤400) ∧
 (∀ H' L',LS C CB H' p d L' (kn++[(w,lit)]) (grow d (kn++[(w,lit)]) tails heads) tails→LStep p L L' H H'→Q .non H')) ∧
 (nextQ d kn heads tails=none→∀ H',LS C CB H' p d L kn heads tails→LStep p L L H H'→E (.ref CN) none H')
theorem ok_Learner_answer (T:Txt K mg t):FnOk P w K mg base (CXr P w) 6 t.f_Learner_answer t.fd_Learner_answer ["self","lit"] (sp_Learner_answer K t.C_Learner t.C_Book t.C_NotAsked):=by
 refine T.F_Learner_answer.okX sc_Learner_answer (fun vs H Q E h=>?_) (fun cdv A outer s H vs Q E hr h=>?_)
 ·obtain ⟨p,d,L,kn,heads,tails,lit,rfl,_⟩:=h
  rfl
 ·obtain ⟨p,d,L,kn,heads,tails,lit,rfl,S,sm,hk,hd1,hd6,qq,qe⟩:=h
  obtain ⟨rows,f,lr,R⟩:=S.ex
  have I:=S.I
  obtain ⟨dx,fs,ho,hf⟩:=lr.ob
  refine ⟨_,pss_cons (ps_set (i:=2) sc_Learner_answer.nd rfl (Or.inl rfl) (pe_meth0 (pv 0) T.cl_Learner T.me_Learner_question (ok_Learner_question T) (hr.mono (by decide)) (b_Learner_question T) .nil pass0))
 (pss_cons (ps_if (pt_cmpR op_isN (pv 2) (pe_non) (nomark _))
 (pss_one (ps_raise xm_def rfl rfl T.mg_NotAsked T.ex_NotAsked.toExcCls (pa_cons (pe_str) (pa_nil))))
 (pss_nil))
 (pss_cons (ps_expr (pe_meth (pe_fldK K (pv 0) rfl) T.cl_Book T.me_Book_note (ok_Book_note T) (hr.mono (by decide)) (b_Book_note T) .nil xp_def.pass (pa_cons (pv 2) (pa_cons (pv 1) (pa_nil)))))
 (pss_one (ps_expr (pe_meth0 (pv 0) T.cl_Learner T.me_Learner_add_unlike_edges (ok_Learner_add_unlike_edges T) (hr.mono (by decide)) (b_Learner_add_unlike_edges T) .nil pass0))))),?_⟩
  walk_at "w";refine ⟨p,dx,_,rfl,ho,hf.no _ (by decide +kernel),?_⟩
  refine ⟨p,d,L,kn,heads,tails,rows,f,rfl,lr,R,sm,I.lines1000 sm.hs,fun hq H1 rows1 l1 R1 st1=>?_,fun wd hq H1 rows1 f1 wa l1 R1 st1 hwn hwa=>?_⟩
  ·walk_at "w";refine ⟨rfl,?_⟩
   walk_at "w";refine r_iteP rfl ?_
   walk_at "w";exact ⟨by show 1≤sizeLine;decide,qe hq H1 ⟨⟨_,_,l1,R1⟩,S.I,S.st⟩ st1⟩
  obtain ⟨bnd,q⟩:=qq wd hq
  obtain ⟨hwo,hno⟩:=I.qok hq
  obtain ⟨dx1,fs1,ho1,hf1⟩:=l1.ob
  obtain ⟨bx,hbk⟩:=l1.book.ob
  walk_at "w";refine ⟨rfl,?_⟩
  walk_at "w";refine r_iteN rfl ?_
  walk_at "w";refine ⟨_,rfl,p,_,dx1,_,_,rfl,ho1,T.cl_Learner,T.na_Learner_book,hf1.book,?_⟩
  refine ⟨L.bk,bx,_,rfl,hbk,bkf_no _ _ (by decide +kernel) (by decide +kernel),?_⟩
  walk_at "w";refine ⟨L.bk,d,L.nb,kn,wa,wd,lit,rfl,l1.book,SqL.of hwa,wok_small hwo hd6,sm.ks,fun _ _ H2 B2 k2=>?_,(fun _ hs=>by rw [hno] at hs;cases hs),(fun _ hs=>by rw [hno] at hs;cases hs),fun nw=>absurd hwo nw⟩
  obtain ⟨l2,st2⟩:=l1.noted B2 k2
  have R2:=R1.note wd lit
  have I2:=I.note lit hq
  obtain ⟨dx2,fs2,ho2,hf2⟩:=l2.ob
  walk_at "w";refine ⟨p,dx2,_,rfl,ho2,hf2.no _ (by decide +kernel),?_⟩
  refine ⟨p,d,L,_,heads,tails,rows1,f1,rfl,l2,R2,⟨sm.hs,sm.ts,sm.tw,by rw [List.length_append,List.length_singleton];omega⟩,I2,hd1,hd6,bnd,fun H3 L3 rows3 f3 l3 R3 I3 c3 st3=>?_⟩
  walk_at "w";exact q H3 L3 ⟨⟨rows3,f3,l3,R3⟩,I3,c3⟩ (st1.trans (st2.trans st3))
theorem sc_Learner_guess:FnScope ["self","numbers","leads","ways","number","first"] ["self"] (defScope s_Learner_guess):=⟨rfl,rfl,rfl,by decide +kernel,rfl,by decide +kernel,by decide +kernel⟩
theorem b_Learner_guess (T:Txt K mg t):Binds K t.fd_Learner_guess ["self"] []:=T.F_Learner_guess.binds fun _ _ _ _ _ _ us hl=>by obtain ⟨_,rfl⟩:=len_1 hl;rfl
theorem lines_cut {d:Int} {heads:List (List Int)} {i:Nat} {h:List Int} (e:heads[i]?=some h):((linesOf d heads).drop (i * (d.toNat+1)+1)).take d.toNat=edgesOf d h:=by
 apply List.ext_getElem?
 intro j
 by_cases hj:j < d.toNat
 ·rw [List.getElem?_take_of_lt hj,List.getElem?_drop,lines_edge e hj]
  unfold edgesOf
  rw [List.getElem?_map,List.getElem?_range hj];rfl
 ·rw [List.getElem?_eq_none_iff.mpr (by rw [List.length_take];omega),List.getElem?_eq_none_iff.mpr (by rw [edgesOf_len];omega)]
def sp_Learner_guess (K:PySem.W.Frag) (C CB CH CN:Addr):Sp:=fun vs H Q E=>∃ (p:Addr) (d:Int) (L:LA) (kn:Bk) (heads tails:List (List Int)),vs=[.ref p]∧LS C CB H p d L kn heads tails∧Small heads tails kn∧1≤d∧d≤6 ∧
 (Closed d kn heads tails→∀ H' gp aw rs al,LS C CB H' p d L kn heads tails→LStep p L L H H'→HouseAt CH H' gp d aw rs (guessW d kn heads tails) al (guessL kn heads)→(∀ b,b=gp∨b∈al :: aw :: rs→H b=none)→Q (.ref gp) H') ∧
 (nextQ d kn heads tails≠none→∀ H',LS C CB H' p d L kn heads tails→LStep p L L H H'→E (.ref CN) none H')
theorem ok_Learner_guess (T:Txt K mg t):FnOk P w K mg base (CXr P w) 6 t.f_Learner_guess t.fd_Learner_guess ["self"] (sp_Learner_guess K t.C_Learner t.C_Book t.C_House t.C_NotYet):=by
 refine T.F_Learner_guess.okX sc_Learner_guess (fun vs H Q E h=>?_) (fun cdv A outer s H vs Q E hr h=>?_)
 ·obtain ⟨p,d,L,kn,heads,tails,rfl,_⟩:=h
  rfl
 ·obtain ⟨p,d,L,kn,heads,tails,rfl,S,sm,hd1,hd6,q,qe⟩:=h
  obtain ⟨rows,f,lr,R⟩:=S.ex
  have I:=S.I
  obtain ⟨dx,fs,ho,hf⟩:=lr.ob
  refine ⟨_,pss_cons (ps_if (pt_cmpR op_notN (pe_meth0 (pv 0) T.cl_Learner T.me_Learner_question (ok_Learner_question T) (hr.mono (by decide)) (b_Learner_question T) .nil pass0) (pe_non) (nomark _))
 (pss_one (ps_raise xm_def rfl rfl T.mg_NotYet T.ex_NotYet.toExcCls (pa_cons (pe_str) (pa_nil))))
 (pss_nil))
 (pss_cons (ps_set (i:=1) sc_Learner_guess.nd rfl (Or.inr rfl) (pe_meth0 (pv 0) T.cl_Learner T.me_Learner_heads_by_row (ok_Learner_heads_by_row T) (hr.mono (by decide)) (b_Learner_heads_by_row T) .nil pass0))
 (pss_cons (ps_setC (i:=2) (N:=["self","numbers","leads","ways","number","first"]) (sc0:=(defScope s_Learner_guess)) (N':=["row","numbers"]) (caps:=[none,some 1]) (by exact ⟨rfl,by decide +kernel,by decide +kernel,by decide +kernel,rfl,rfl,by decide +kernel⟩) rfl sc_Learner_guess.nd rfl (Or.inl rfl) (pi_listK K (pe_fldK K (pv 0) rfl)) (fun _ _ _ _ _ _=>pg_name (i:=0) (show List.Nodup (["row","numbers"]:List Str) from by decide +kernel) rfl (Or.inl rfl)) (fun _ _ _ _ _ _=>pe_gget (tbKD P w) hr.u16 (pv 1) (pe_callTy (call_tuple_ofK K) rfl T.m_tuple boot_tuple (pa_cons (pv 0) (pa_nil))) (fun _ _=>rfl)))
 (pss_cons (ps_set (i:=3) sc_Learner_guess.nd rfl (Or.inl rfl) (pe_lst (pa_nil)))
 (pss_cons (ps_for xp_def.own rfl (pi_range1 rfl T.m_range (pa_cons (pe_callB (call_len_seqK K) rfl T.m_len PySem.boot_len (pa_cons (pe_fldK K (pv 0) rfl) (pa_nil))) (pa_nil))) (pg_name (i:=4) sc_Learner_guess.nd rfl (Or.inl rfl))
 (pss_cons (ps_set (i:=5) sc_Learner_guess.nd rfl (Or.inl rfl) (pe_op op_add (pe_op op_mul (pv 4) (pe_op op_add (pe_fldK K (pv 0) rfl) (pe_int))) (pe_int)))
 (pss_one (ps_expr (pe_bmK K PySem.F.plainAttrs_list PySem.F.slot_list_append PySem.F.type_list_append mt_append (pv 3) (pa_cons (pe_slice (sl_listK K) (pv 2) (po_some (pv 5)) (po_some (pe_op op_add (pv 5) (pe_fldK K (pv 0) rfl)))) (pa_nil)))))))
 (pss_one (ps_ret (pe_make T.mk_House (ok_House_init T) (hr.mono (by decide)) rfl T.mg_House (b_House_init T) .nil xp_def.pass (pa_cons (pe_fldK K (pv 0) rfl) (pa_cons (pv 3) (pa_cons (pe_comp (N:=["self","numbers","leads","ways","number","first"]) (sc0:=(defScope s_Learner_guess)) (N':=["head","self"]) (caps:=[none,some 0]) (by exact ⟨rfl,by decide +kernel,by decide +kernel,by decide +kernel,rfl,rfl,by decide +kernel⟩) rfl (pi_listK K (pe_fldK K (pv 0) rfl)) (fun _ _ _ _ _ _=>pg_name (i:=0) (show List.Nodup (["head","self"]:List Str) from by decide +kernel) rfl (Or.inl rfl)) (fun _ _ _ _ _ _=>pe_meth (pe_fldK K (pv 1) rfl) T.cl_Book T.me_Book_said (ok_Book_said T) (hr.mono (by decide)) (b_Book_said T) .nil pass0X (pa_cons (pv 0) (pa_nil)))) (pa_nil))))))))))),?_⟩
  walk_at "w";refine ⟨p,dx,_,rfl,ho,hf.no _ (by decide +kernel),?_⟩
  refine ⟨p,d,L,kn,heads,tails,rows,f,rfl,lr,R,sm,I.lines1000 sm.hs,fun hq H1 rows1 l1 R1 st1=>?_,fun w' hq' H1 rows1 f1 wa l1 R1 st1 hwn hwa=>?_⟩
  rotate_left
  ·walk_at "w";refine ⟨rfl,?_⟩
   walk_at "w";refine r_iteP rfl ?_
   walk_at "w";exact ⟨by show 1≤sizeLine;decide,qe (by rw [hq'];simp) H1 ⟨⟨_,_,l1,R1⟩,S.I,S.st⟩ st1⟩
  have Cl:=closed_of S.st hq
  replace q:=q Cl
  obtain ⟨dx1,fs1,ho1,hf1⟩:=l1.ob
  have hrows:=R1.all.2
  walk_at "w";refine ⟨rfl,?_⟩
  walk_at "w";refine r_iteN rfl ?_
  walk_at "w";refine ⟨p,dx1,_,rfl,ho1,hf1.no _ (by decide +kernel),?_⟩
  refine ⟨p,d,L,kn,heads,tails,rows1,_,rfl,l1,hrows,I,sm.hs,hd1,hd6,fun H2 nb s2 hnb dg2=>?_⟩
  have l2:=l1.same s2
  have hLl:(linesOf d heads).length=heads.length * (d.toNat+1):=linesOf_len d heads
  have hLb:heads.length * (d.toNat+1)≤2800:=by
   have:heads.length * (d.toNat+1)≤400 * 7:=Nat.mul_le_mul sm.hs (by omega)
   omega
  have hRl:L.rA.length=(linesOf d heads).length:=by rw [l2.rww.len,R1.len]
  walk_at "w";refine ⟨_,rfl,p,_,dx1,_,_,rfl,s2 _ _ ho1,T.cl_Learner,T.na_Learner_rows,hf1.rows,?_⟩
  refine ⟨L.ro,rfl,⟨_,SqL.of l2.rws⟩,?_⟩
  refine comp_list (xs:=L.rA.map V.ref) (fun acc i ys H'=>(∀ b o,H2 b=some o→H' b=some o)∧H2 acc=none∧H' acc=some (.lst ys)∧ys=(((linesOf d heads).take i).map (ixR kn heads tails)).map V.int) (fun acc hacc=>⟨fun b o e=>Same.upd_new hacc b o e,hacc,upd_same,rfl⟩) (fun acc i ys H' hacc _ pp=>SqL.of (pp.1 _ _ l2.rws)) (fun acc i x ys H3 hacc hx pp=>?_) (fun acc ys H3 hacc pp=>?_)
  ·obtain ⟨s3,_,hac,rfl⟩:=pp
   have hx0:=ref_map_inv hx
   clear hx
   obtain ⟨ra,rfl,hra⟩:=hx0
   have hi:i < (linesOf d heads).length:=by rw [← hRl];exact (List.getElem?_eq_some_iff.mp hra).1
   have hl:=List.getElem?_eq_getElem hi
   have hr:rows1[i]?=some (rowOf kn tails (linesOf d heads)[i]):=by rw [hrows,List.getElem?_map,hl];rfl
   have hin:=loose_none.mp Cl.l _ (List.getElem_mem hi)
   generalize (linesOf d heads)[i]=l at hl hr hin
   have ra2:=l2.rww.row i ra _ hra hr
   walk_at "w";refine ⟨Wk.set rfl,?_⟩
   walk_at "w";refine ⟨ra,_,rfl,.inl ⟨SqL.of (s3 _ _ ra2),fun kt hkt=>?_⟩⟩
   have s5:Same H3 (upd H3 kt (.tup ((rowOf kn tails l).map V.bl))):=Same.upd_new hkt
   have kt5:(upd H3 kt (.tup ((rowOf kn tails l).map V.bl))) kt=some (.tup ((rowOf kn tails l).map V.bl)):=upd_same
   generalize upd H3 kt (.tup ((rowOf kn tails l).map V.bl))=H5 at s5 kt5 ⊢
   refine ⟨nb,kt,rowOf kn tails l,_,_,rfl,rfl,kt5,dg2.same (fun b o e=>s5 _ _ (s3 b o e)),by rw [valV_numK,if_pos hin],?_⟩
   refine ⟨s5 _ _ hac,big6 (by rw [List.length_map,List.length_map,List.length_take];omega),fun b o e=>?_,hacc,upd_same,?_⟩
   ·rw [upd_ne (ne_of_none e hacc)];exact s5 _ _ (s3 b o e)
   ·rw [take_snocT hl,List.map_append,List.map_append];rfl
  ·obtain ⟨s3,_,hac,rfl⟩:=pp
   rw [List.length_map,hRl,List.take_length] at hac
   have s3':Same H2 H3:=s3
   clear s3
   have l3:=l2.same s3'
   have st3:LStep p L L H H3:=st1.trans (.same (s2.trans s3'))
   have s13:Same H1 H3:=s2.trans s3'
   walk_at "w";refine ⟨Nat.zero_le _,fun wa hwa=>?_⟩
   have G0:Grown H3 (upd H3 wa (.lst [])) wa [] (fun j=>(guessW d kn heads tails).getD j []):=Grown.start hwa
   have s4:Same H3 (upd H3 wa (.lst [])):=Same.upd_new hwa
   generalize upd H3 wa (.lst [])=H4 at G0 s4 ⊢
   walk_at "w";refine ⟨_,rfl,p,_,dx1,_,_,rfl,s4 _ _ (s13 _ _ ho1),T.cl_Learner,T.na_Learner_heads,hf1.heads,?_⟩
   refine ⟨_,_,rfl,.inl (SqL.of (s4 _ _ l3.hds)),?_⟩
   rw [List.length_map,l3.hdw.len]
   walk_at "w";refine ⟨_,rfl,by omega,by have:=sm.hs;omega,?_⟩
   refine for_range (fun i σ H'=>∃ rs,rs.length=i∧Grown H3 H' wa rs (fun j=>(guessW d kn heads tails).getD j [])∧∃ k4 k5,σ=[some (.ref p),some (.ref nb),some (.ref acc),some (.ref wa),k4,k5]) ⟨[],rfl,G0,_,_,rfl⟩ (fun i σ H5 hi pp=>?_) (fun σ H5 pp=>?_)
   ·obtain ⟨rs,hrs,G,k4,k5,rfl⟩:=pp
    have hih:i < heads.length:=by omega
    have hhi:=List.getElem?_eq_getElem hih
    have e0:(0:Int)+(i:Int)=(i:Int):=by omega
    rw [e0]
    have hm:=sm.hs
    have hmul:(i:Int) * (d+1)=((i * (d.toNat+1):Nat):Int):=by
     rw [Int.natCast_mul,Int.natCast_add]
     have:(d.toNat:Int)=d:=Int.toNat_of_nonneg (by omega)
     rw [this];rfl
    have hib:i * (d.toNat+1)+(d.toNat+1)≤heads.length * (d.toNat+1):=by
     have:=Nat.mul_le_mul_right (d.toNat+1) (show i+1≤heads.length by omega)
     rw [Nat.succ_mul] at this;omega
    walk_at "w";refine ⟨_,rfl,p,_,dx1,_,_,rfl,G.same _ _ (s13 _ _ ho1),T.cl_Learner,T.na_Learner_doors,hf1.doors,?_⟩
    walk_at "w";refine r_I (Or.inl ⟨by omega,by omega⟩) ?_
    walk_at "w";rw [hmul]
    refine ⟨.inl ⟨rfl,_,SqL.of G.top⟩,?_⟩
    walk_at "w";refine ⟨_,rfl,?_⟩
    walk_at "w";refine ⟨_,rfl,p,_,dx1,_,_,rfl,G.same _ _ (s13 _ _ ho1),T.cl_Learner,T.na_Learner_doors,hf1.doors,?_⟩
    walk_at "w";refine ⟨_,rfl,?_⟩
    refine ⟨acc,_,rfl,SqL.of (G.same _ _ hac),fun sl hsl=>?_⟩
    have hcut:cutV (((linesOf d heads).map (ixR kn heads tails)).map V.int) (some (((i * (d.toNat+1):Nat):Int)+1)) (some (((i * (d.toNat+1):Nat):Int)+1+d))=((guessW d kn heads tails).getD rs.length []).map V.int:=by
     rw [cut_mid (by omega) (by omega) (by rw [List.length_map,List.length_map,hLl];omega)]
     rw [show (((i * (d.toNat+1):Nat):Int)+1).toNat=i * (d.toNat+1)+1 by omega,show (((i * (d.toNat+1):Nat):Int)+1+d).toNat - (i * (d.toNat+1)+1)=d.toNat by omega]
     rw [← List.map_drop,← List.map_drop,← List.map_take,← List.map_take,lines_cut hhi]
     unfold guessW
     rw [hrs,List.getD_eq_getElem?_getD,List.getElem?_map,hhi]
     rfl
    rw [hcut]
    have nsw:wa≠sl:=ne_of_none G.top hsl
    refine ⟨wa,_,_,rfl,rfl,by rw [upd_ne nsw];exact G.top,big6 (by rw [List.length_map];omega),?_⟩
    refine ⟨rs++[sl],by simp [hrs],G.step hsl (by rw [upd_same,List.map_append];rfl) (by rw [upd_ne (Ne.symm nsw),upd_same]) (fun b o h1 _ e=>by rw [upd_ne h1,upd_ne (ne_of_none e hsl)];exact e),_,_,rfl⟩
   ·obtain ⟨rs,hrs,G,k4,k5,rfl⟩:=pp
    rw [Int.toNat_natCast] at hrs
    have M5:=G.matOf (by rw [hrs];unfold guessW;rw [List.length_map])
    have l5:=l3.same G.same
    have ho5:=G.same _ _ (s13 _ _ ho1)
    walk_at "w";refine ⟨_,rfl,p,_,dx1,_,_,rfl,ho5,T.cl_Learner,T.na_Learner_doors,hf1.doors,?_⟩
    walk_at "w";refine ⟨_,rfl,p,_,dx1,_,_,rfl,ho5,T.cl_Learner,T.na_Learner_heads,hf1.heads,?_⟩
    refine ⟨L.ha,rfl,⟨_,SqL.of l5.hds⟩,?_⟩
    refine comp_list (xs:=L.hA.map V.ref) (fun ac i ys H'=>(∀ b o,H5 b=some o→H' b=some o)∧H' ac=some (.lst ys)∧ys=((guessL kn heads).take i).map V.bl) (fun ac hacc=>⟨fun b o e=>Same.upd_new hacc b o e,upd_same,rfl⟩) (fun ac i ys H' hacc _ pp=>SqL.of (pp.1 _ _ l5.hds)) (fun ac i x ys H6 hacc hx pp=>?_) (fun ac ys H6 hacc pp=>?_)
    ·obtain ⟨s6,hac6,rfl⟩:=pp
     have hx0:=ref_map_inv hx
     clear hx
     obtain ⟨hx,rfl,hha⟩:=hx0
     have hi:i < heads.length:=by rw [← l5.hdw.len];exact (List.getElem?_eq_some_iff.mp hha).1
     have hhi:=List.getElem?_eq_getElem hi
     have hw6:=l5.hdw.row i hx _ hha hhi
     have hwo:=I.hok _ (List.getElem_mem hi)
     obtain ⟨bb,hbb⟩:=next_none.mp Cl.q heads[i] (mem_lines.mpr ⟨_,List.getElem_mem hi,.inl rfl⟩) [] I.tmem0
     rw [List.append_nil] at hbb
     have hgl:(guessL kn heads)[i]?=some bb:=by unfold guessL;rw [List.getElem?_map,hhi,Option.map_some,hbb];rfl
     generalize heads[i]=hd at hhi hw6 hwo hbb
     have l6:LrnAt t.C_Learner t.C_Book H6 p d L kn heads tails rows1 _:=l5.same s6
     obtain ⟨bx,hbk⟩:=l6.book.ob
     walk_at "w";refine ⟨Wk.set rfl,?_⟩
     walk_at "w";refine ⟨_,rfl,p,_,dx1,_,_,rfl,s6 _ _ ho5,T.cl_Learner,T.na_Learner_book,hf1.book,?_⟩
     refine ⟨L.bk,bx,_,rfl,hbk,bkf_no _ _ (by decide +kernel) (by decide +kernel),?_⟩
     walk_at "w";refine ⟨L.bk,d,L.nb,kn,hx,hd,rfl,l6.book,SqL.of (s6 _ _ hw6),wok_small hwo hd6,fun _ H7 s7=>?_,fun nw=>absurd hwo nw⟩
     have e7:saidV kn hd=.bl bb:=by unfold saidV;rw [hbb];rfl
     rw [e7]
     refine ⟨s7 _ _ hac6,big6 (by rw [List.length_map,List.length_take];have:=sm.hs;omega),fun b o e=>?_,upd_same,?_⟩
     ·rw [upd_ne (ne_of_none e hacc)];exact s7 _ _ (s6 b o e)
     ·rw [take_snocT hgl,List.map_append];rfl
    ·obtain ⟨s6,hac6,rfl⟩:=pp
     have hgll:(guessL kn heads).length=heads.length:=by simp [guessL]
     rw [List.length_map,l5.hdw.len,← hgll,List.take_length] at hac6
     have s6':Same H5 H6:=s6
     have l6:=l5.same s6'
     have M6:=M5.same s6'
     walk_at "w";intro hp hdx e1 e2 e3
     have sm6:Same H6 (upd (upd H6 hdx (.own hp)) hp (.ins t.C_House hdx [])):=(Same.upd_new e2).trans (Same.upd_new (by rw [upd_ne (Ne.symm e3)];exact e1))
     refine ⟨hp,hdx,d,wa,rs,guessW d kn heads tails,ac,guessL kn heads,rfl,upd_same,M6.same sm6,SqL.of (sm6 _ _ hac6),SmallH.of (I.valid Cl hd1 hd6 sm.hs),fun _ H7 aw7 rs7 al7 hh7 keep7 new7=>⟨rfl,?_⟩,fun nv=>absurd (I.valid Cl hd1 hd6 sm.hs) nv⟩
     have s7:Same H6 H7:=fun b o e=>keep7 b o (sm6 b o e) (ne_of_none e e1)
     have sAll:Same H1 H7:=(s13.trans G.same).trans (s6'.trans s7)
     have hfree:∀ b,H6 b=none→H b=none:=fun b e=>by
      have e':=((s13.trans G.same).trans s6').free e
      cases hh:H b with
      | none=>rfl
      | some o =>
       rw [st1.kp b o (fun z=>l1.notOwn e' (own_mut z)) hh] at e';cases e'
     walk_at "w";refine q H7 hp aw7 rs7 al7 ⟨⟨rows1,_,l1.same sAll,R1⟩,I,S.st⟩ (st1.trans (.same sAll)) hh7 (fun b hb=>?_)
     rcases hb with rfl | hb
     ·exact hfree _ e1
     ·exact hfree _ (sm6.free (new7 b hb))
theorem sc_Learner_add_tails:FnScope ["self","word","size","end"] ["self","word"] (defScope s_Learner_add_tails):=⟨rfl,rfl,rfl,by decide +kernel,rfl,by decide +kernel,by decide +kernel⟩
theorem b_Learner_add_tails (T:Txt K mg t):Binds K t.fd_Learner_add_tails ["self","word"] []:=T.F_Learner_add_tails.binds fun _ _ _ _ _ _ us hl=>by obtain ⟨_,_,rfl⟩:=len_2 hl;rfl
def sp_Learner_add_tails (K:PySem.W.Frag) (C CB:Addr):Sp:=fun vs H Q _=>∃ (p:Addr) (d:Int) (L:LA) (kn:Bk) (heads tails:List (List Int)) (rows:List (List Bool)) (f:Nat) (b:Addr) (ws:List Int),vs=[.ref p,.ref b]∧LrnAt C CB H p d L kn heads tails rows f∧H b=some (.lst (ws.map V.int))∧b∉mutL p L∧ws.length≤100000∧tails.length≤100000 ∧
 (∀ H' L',LrnAt C CB H' p d L' kn heads (ends tails ws) rows 0→LStep p L L' H H'→Q .non H')
theorem ok_Learner_add_tails (T:Txt K mg t):FnOk P w K mg base CX0 1 t.f_Learner_add_tails t.fd_Learner_add_tails ["self","word"] (sp_Learner_add_tails K t.C_Learner t.C_Book):=by
 refine T.F_Learner_add_tails.ok sc_Learner_add_tails (fun vs H Q E h=>?_) (fun cdv A outer s H vs Q E hr h=>?_)
 ·obtain ⟨p,d,L,kn,heads,tails,rows,f,b,ws,rfl,_⟩:=h
  rfl
 ·obtain ⟨p,d,L,kn,heads,tails,rows,f,b,ws,rfl,lr,hb,nb,hw5,ht5,q⟩:=h
  refine ⟨_,pss_cons (ps_for PassesOwn.never rfl (pi_range2 rfl T.m_range (pa_cons (pe_int) (pa_cons (pe_op op_add (pe_callB (call_len_seqK K) rfl T.m_len PySem.boot_len (pa_cons (pv 1) (pa_nil))) (pe_int)) (pa_nil)))) (pg_name (i:=2) sc_Learner_add_tails.nd rfl (Or.inl rfl))
 (pss_cons (ps_set (i:=3) sc_Learner_add_tails.nd rfl (Or.inl rfl) (pe_slice (sl_listK K) (pv 1) (po_some (pe_op op_sub (pe_callB (call_len_seqK K) rfl T.m_len PySem.boot_len (pa_cons (pv 1) (pa_nil))) (pv 2))) (po_none)))
 (pss_one (ps_join (ps_if (pt_cmp (pc_op (op_notinWK K hr.u80) (pv 3) (pe_fldK K (pv 0) rfl)))
 (pss_one (ps_expr (pe_bmK K PySem.F.plainAttrs_list PySem.F.slot_list_append PySem.F.type_list_append mt_append (pe_fldK K (pv 0) rfl) (pa_cons (pv 3) (pa_nil)))))
 (pss_nil))))))
 (pss_one (ps_fldK K (pv 0) (pe_int) rfl)),?_⟩
  walk_at "w";refine ⟨b,_,rfl,.inl (SqL.of hb),?_⟩
  rw [List.length_map]
  walk_at "w";refine ⟨_,_,rfl,by constructor <;> omega,?_⟩
  refine for_range (fun i σ H'=>∃ L',LrnAt t.C_Learner t.C_Book H' p d L' kn heads (endsK tails ws i) rows f∧LStep p L L' H H'∧mutL p L'=mutL p L∧∃ k2 k3,σ=[some (.ref p),some (.ref b),k2,k3]) ⟨L,lr,.same (Same.refl _),rfl,_,_,rfl⟩ (fun i σ H1 hi pp=>?_) (fun σ H1 pp=>?_)
  ·obtain ⟨L1,l1,st1,eta,k2,k3,rfl⟩:=pp
   have hi':i < ws.length:=by omega
   obtain ⟨dx1,fs1,ho1,hf1⟩:=l1.ob
   have hb1:H1 b=some (.lst (ws.map V.int)):=st1.kp _ _ nb hb
   have nb1:b∉mutL p L1:=fun z=>by
    rcases st1.mu b z with h | h
    ·exact nb h
    ·rw [hb] at h;cases h
   walk_at "w";refine ⟨b,_,rfl,.inl (SqL.of hb1),?_⟩
   rw [List.length_map]
   walk_at "w";refine ⟨_,rfl,?_⟩
   walk_at "w";refine ⟨b,_,rfl,SqL.of hb1,fun e he=>?_⟩
   have hcut:cutV (ws.map V.int) (some ((ws.length:Int) - (1+(i:Int)))) none=(ws.drop (ws.length - (i+1))).map V.int:=by
    rw [cut_from (by omega) (by rw [List.length_map];omega),List.map_drop]
    congr 1;omega
   rw [hcut]
   have s2:Same H1 (upd H1 e (.lst ((ws.drop (ws.length - (i+1))).map V.int))):=Same.upd_new he
   have e2:(upd H1 e (.lst ((ws.drop (ws.length - (i+1))).map V.int))) e=some (.lst ((ws.drop (ws.length - (i+1))).map V.int)):=upd_same
   have ne:=l1.notOwn he
   generalize upd H1 e (.lst ((ws.drop (ws.length - (i+1))).map V.int))=H2 at s2 e2 ⊢
   have l2:=l1.same s2
   walk_at "w";have eend:endsK tails ws (i+1)=if ws.drop (ws.length - (i+1))∈endsK tails ws i then endsK tails ws i else endsK tails ws i++[ws.drop (ws.length - (i+1))]:=rfl
   refine r_join (fun σ' H'=>∃ L',LrnAt t.C_Learner t.C_Book H' p d L' kn heads (endsK tails ws (i+1)) rows f∧LStep p L L' H H'∧mutL p L'=mutL p L∧∃ k2 k3,σ'=[some (.ref p),some (.ref b),k2,k3]) ?_ (fun σ' H' z=>z)
   walk_at "w";refine ⟨_,rfl,p,_,dx1,_,_,rfl,s2 _ _ ho1,T.cl_Learner,T.na_Learner_tails,hf1.tails,?_⟩
   refine ⟨e,L1.ta,_,L1.tA,_,rfl,rfl,SqL.of e2,SqL.of l2.tls,l2.tlw,?_⟩
   walk_at "w";by_cases hm:ws.drop (ws.length - (i+1))∈endsK tails ws i
   ·refine r_iteN (by simp [hm]) ?_
    walk_at "w";rw [eend,if_pos hm]
    exact ⟨L1,l2,st1.trans (.same s2),eta,_,_,rfl⟩
   ·refine r_iteP (by simp [hm]) ?_
    walk_at "w";refine ⟨_,rfl,p,_,dx1,_,_,rfl,s2 _ _ ho1,T.cl_Learner,T.na_Learner_tails,hf1.tails,?_⟩
    walk_at "w";refine ⟨.inl ⟨rfl,_,SqL.of l2.tls⟩,?_⟩
    walk_at "w";obtain ⟨r,er,hrl⟩:=ends_pre (tails:=tails) (w:=ws) i
    refine ⟨L1.ta,_,_,rfl,rfl,l2.tls,big6 (by rw [List.length_map,l2.tlw.len,er,List.length_append];omega),?_⟩
    obtain ⟨l3,k3⟩:=l2.tail e2 (fun z=>ne (own_mut z))
    rw [show L1.tA.map V.ref++[V.ref e]=(L1.tA++[e]).map V.ref by rw [List.map_append];rfl]
    rw [eend,if_neg hm]
    have heH:H e=none:=by
     cases hh:H e with
     | none=>rfl
     | some o =>
      have:e∉mutL p L:=fun z=>ne (own_mut (by rw [eta];exact z))
      rw [st1.kp e o this hh] at he;cases he
    refine ⟨_,l3,⟨fun c o hc q=>k3 c o (fun z=>hc (by rw [← eta,z];exact mut_ta)) (s2 _ _ (st1.kp c o hc q)),fun c hc=>?_,fun c hc=>.inl (by rw [← eta];exact hc)⟩,eta,_,_,rfl⟩
    rcases own_tail hc with h | h
    ·exact st1.own c h
    ·rw [h];exact .inr heH
  ·obtain ⟨L1,l1,st1,eta,k2,k3,rfl⟩:=pp
   obtain ⟨dx1,fs1,ho1,hf1⟩:=l1.ob
   walk_at "w";refine ⟨p,_,dx1,_,rfl,ho1,T.cl_Learner,T.na_Learner_filled,by have:=hf1.len;omega,?_⟩
   obtain ⟨l2,st2⟩:=l1.setF (dx:=dx1) (hf1.setF 0)
   have el:((ws.length:Int)+1 - 1).toNat=ws.length:=by omega
   rw [el] at l2
   exact q _ L1 l2 (st1.trans st2)
theorem sc_Learner_wrong:FnScope ["self","word","lit","guessed"] ["self","word","lit"] (defScope s_Learner_wrong):=⟨rfl,rfl,rfl,by decide +kernel,rfl,by decide +kernel,by decide +kernel⟩
theorem b_Learner_wrong (T:Txt K mg t):Binds K t.fd_Learner_wrong ["self","word","lit"] []:=T.F_Learner_wrong.binds fun _ _ _ _ _ _ us hl=>by obtain ⟨_,_,_,rfl⟩:=len_3 hl;rfl
def sp_Learner_wrong (K:PySem.W.Frag) (C CB CY CW CS CN:Addr):Sp:=fun vs H Q E=>∃ (p:Addr) (d:Int) (L:LA) (kn:Bk) (heads tails:List (List Int)) (b:Addr) (ws:List Int) (lit:Bool),vs=[.ref p,.ref b,.bl lit]∧LS C CB H p d L kn heads tails∧Small heads tails kn∧kn.length < 100000∧1≤d∧d≤6 ∧
 H b=some (.lst (ws.map V.int))∧b∉ownL p L∧SmallW ws∧ws.length≤900 ∧
 (nextQ d kn heads tails=none→WordOk d ws→saidO kn ws=none→lampW (guessW d kn heads tails) (guessL kn heads) ws=(!lit)→Small heads (ends tails ws) kn∧(∀ hs,LI d (kn++[(ws,lit)]) hs (ends tails ws)→hs.length≤400) ∧
 (∀ H' L',LS C CB H' p d L' (kn++[(ws,lit)]) (grow d (kn++[(ws,lit)]) (ends tails ws) heads) (ends tails ws)→LStep p L L' H H'→Q .non H')) ∧
 (nextQ d kn heads tails≠none→∀ H',LS C CB H' p d L kn heads tails→LStep p L L H H'→E (.ref CY) none H') ∧
 (nextQ d kn heads tails=none→¬ WordOk d ws→∀ H',LS C CB H' p d L kn heads tails→LStep p L L H H'→E (.ref CW) none H') ∧
 (nextQ d kn heads tails=none→WordOk d ws→saidO kn ws=some (!lit)→∀ H',LS C CB H' p d L kn heads tails→LStep p L L H H'→E (.ref CS) none H') ∧
 (nextQ d kn heads tails=none→WordOk d ws→saidO kn ws≠some (!lit)→lampW (guessW d kn heads tails) (guessL kn heads) ws=lit→∀ H',LS C CB H' p d L kn heads tails→LStep p L L H H'→E (.ref CN) none H')
theorem ok_Learner_wrong (T:Txt K mg t):FnOk P w K mg base (CXr P w) 8 t.f_Learner_wrong t.fd_Learner_wrong ["self","word","lit"] (sp_Learner_wrong K t.C_Learner t.C_Book t.C_NotYet t.C_BadWord t.C_SaidOtherwise t.C_NotWrong):=by
 refine T.F_Learner_wrong.okX sc_Learner_wrong (fun vs H Q E h=>?_) (fun cdv A outer s H vs Q E hr h=>?_)
 ·obtain ⟨p,d,L,kn,heads,tails,b,ws,lit,rfl,_⟩:=h
  rfl
 ·obtain ⟨p,d,L,kn,heads,tails,b,ws,lit,rfl,S,sm0,hk,hd1,hd6,hb,nb,hsw,hw9,qq,qy,qw,qs,qn⟩:=h
  have ht5:=sm0.ts
  obtain ⟨rows,f,lr,R⟩:=S.ex
  have I:=S.I
  obtain ⟨dx,fs,ho,hf⟩:=lr.ob
  refine ⟨_,pss_cons (ps_set (i:=3) sc_Learner_wrong.nd rfl (Or.inl rfl) (pe_meth0 (pv 0) T.cl_Learner T.me_Learner_guess (ok_Learner_guess T) (hr.mono (by decide)) (b_Learner_guess T) .nil xp_def.pass))
 (pss_cons (ps_expr (pe_meth (pe_fldK K (pv 0) rfl) T.cl_Book T.me_Book_check_note (ok_Book_check_note T) (hr.mono (by decide)) (b_Book_check_note T) .nil xp_def.pass (pa_cons (pv 1) (pa_cons (pv 2) (pa_nil)))))
 (pss_cons (ps_if (pt_cmpR op_eq (pe_meth (pv 3) T.cl_House T.me_House_says (ok_House_says T) (hr.mono (by decide)) (b_House_says T) .nil xp_def.pass (pa_cons (pv 1) (pa_nil))) (pv 2) (nomark _))
 (pss_one (ps_raise xm_def rfl rfl T.mg_NotWrong T.ex_NotWrong.toExcCls (pa_cons (pe_str) (pa_nil))))
 (pss_nil))
 (pss_cons (ps_expr (pe_meth (pe_fldK K (pv 0) rfl) T.cl_Book T.me_Book_note (ok_Book_note T) (hr.mono (by decide)) (b_Book_note T) .nil xp_def.pass (pa_cons (pv 1) (pa_cons (pv 2) (pa_nil)))))
 (pss_cons (ps_expr (pe_meth (pv 0) T.cl_Learner T.me_Learner_add_tails (ok_Learner_add_tails T) (hr.mono (by decide)) (b_Learner_add_tails T) .nil pass0 (pa_cons (pv 1) (pa_nil))))
 (pss_one (ps_expr (pe_meth0 (pv 0) T.cl_Learner T.me_Learner_add_unlike_edges (ok_Learner_add_unlike_edges T) (hr.mono (by decide)) (b_Learner_add_unlike_edges T) .nil pass0))))))),?_⟩
  walk_at "w";refine ⟨p,dx,_,rfl,ho,hf.no _ (by decide +kernel),?_⟩
  refine ⟨p,d,L,kn,heads,tails,rfl,S,sm0,hd1,hd6,fun Cl H1 gp aw rs al S1 st1 hh1 new1=>?_,fun hq H1 S1 st1=>qy hq H1 S1 st1⟩
  have hq:=Cl.q
  obtain ⟨rows1,f1,l1,R1⟩:=S1.ex
  obtain ⟨dx1,fs1,ho1,hf1⟩:=l1.ob
  obtain ⟨bx,hbk⟩:=l1.book.ob
  have nbm:b∉mutL p L:=fun z=>nb (own_mut z)
  have hb1:H1 b=some (.lst (ws.map V.int)):=st1.kp _ _ nbm hb
  have V1:=I.valid Cl hd1 hd6 sm0.hs
  walk_at "w";refine ⟨_,rfl,p,_,dx1,_,_,rfl,ho1,T.cl_Learner,T.na_Learner_book,hf1.book,?_⟩
  refine ⟨L.bk,bx,_,rfl,hbk,bkf_no _ _ (by decide +kernel) (by decide +kernel),?_⟩
  walk_at "w";refine ⟨L.bk,d,L.nb,kn,b,ws,lit,rfl,l1.book,SqL.of hb1,hsw,fun hwo hns H2 s2=>?_,fun hwo hs H2 s2=>qs hq hwo hs H2 (S1.same s2) (st1.trans (.same s2)),fun nw=>qw hq nw H1 S1 st1⟩
  have hh2:=hh1.same s2
  obtain ⟨gdx,hgo⟩:=hh2.ob
  walk_at "w";refine ⟨gp,gdx,_,rfl,hgo,hfs_no _ _ _ (by decide +kernel) (by decide +kernel) (by decide +kernel),?_⟩
  walk_at "w";refine ⟨gp,d,aw,rs,_,al,_,b,ws,rfl,hh2,V1.toWays,by have:=V1.r1;omega,V1.ll,SqL.of (s2 _ _ hb1),hsw,hw9,fun _ H3 s3=>?_,fun nw=>absurd hwo nw⟩
  have hlp:(guessL kn heads).getD (walkI (guessW d kn heads tails) 0 ws).toNat false=lampW (guessW d kn heads tails) (guessL kn heads) ws:=rfl
  rw [hlp]
  walk_at "w";refine r_eq rfl ?_
  walk_at "w";by_cases hlt:lampW (guessW d kn heads tails) (guessL kn heads) ws=lit
  ·refine r_iteP (by rw [hlt];simp) ?_
   walk_at "w";exact ⟨by show 1≤sizeLine;decide,qn hq hwo hns hlt H3 (S1.same (s2.trans s3)) (st1.trans (.same (s2.trans s3)))⟩
  have hlamp:lampW (guessW d kn heads tails) (guessL kn heads) ws=!lit:=by
   revert hlt
   cases lampW (guessW d kn heads tails) (guessL kn heads) ws <;> cases lit <;> simp
  have hno:saidO kn ws=none:=by
   cases e:saidO kn ws with
   | none=>rfl
   | some v =>
    have h1:=I.says Cl e
    rw [hlamp] at h1
    rw [h1] at hns
    exact absurd e hns
  obtain ⟨sm,bnd,q⟩:=qq hq hwo hno hlamp
  refine r_iteN (by simp [hlt]) ?_
  have s13:=s2.trans s3
  have l3:=l1.same s13
  obtain ⟨bx3,hbk3⟩:=l3.book.ob
  walk_at "w";refine ⟨_,rfl,p,_,dx1,_,_,rfl,s13 _ _ ho1,T.cl_Learner,T.na_Learner_book,hf1.book,?_⟩
  refine ⟨L.bk,bx3,_,rfl,hbk3,bkf_no _ _ (by decide +kernel) (by decide +kernel),?_⟩
  walk_at "w";refine ⟨L.bk,d,L.nb,kn,b,ws,lit,rfl,l3.book,SqL.of (s13 _ _ hb1),wok_small hwo hd6,sm.ks,fun _ _ H4 B4 k4=>?_,(fun _ hs=>by rw [hno] at hs;cases hs),(fun _ hs=>by rw [hno] at hs;cases hs),fun nw=>absurd hwo nw⟩
  obtain ⟨l4,st4⟩:=l3.noted B4 k4
  obtain ⟨dx4,fs4,ho4,hf4⟩:=l4.ob
  have hb4:H4 b=some (.lst (ws.map V.int)):=k4 _ _ (fun z=>nbm (by rw [z];exact mut_nb)) (s13 _ _ hb1)
  walk_at "w";refine ⟨p,dx4,_,rfl,ho4,hf4.no _ (by decide +kernel),?_⟩
  walk_at "w";refine ⟨p,d,L,_,heads,tails,rows1,f1,b,ws,rfl,l4,hb4,nbm,by omega,ht5,fun H5 L5 l5 st5=>?_⟩
  obtain ⟨dx5,fs5,ho5,hf5⟩:=l5.ob
  obtain ⟨r,er,hrl⟩:=ends_pre (tails:=tails) (w:=ws) ws.length
  have R5:RowsOk d (kn++[(ws,lit)]) heads (ends tails ws) rows1 0:=by
   unfold ends
   rw [er];exact (R1.note ws lit).more r
  have I5:=I.told lit hwo hno
  walk_at "w";refine ⟨p,dx5,_,rfl,ho5,hf5.no _ (by decide +kernel),?_⟩
  refine ⟨p,d,L5,_,heads,_,rows1,0,rfl,l5,R5,⟨sm.hs,sm.ts,sm.tw,by rw [List.length_append,List.length_singleton];omega⟩,I5,hd1,hd6,bnd,fun H6 L6 rows6 f6 l6 R6 I6 c6 st6=>?_⟩
  walk_at "w";exact q H6 L6 ⟨⟨rows6,f6,l6,R6⟩,I6,c6⟩ (st1.trans ((LStep.same s13).trans (st4.trans (st5.trans st6))))
theorem sc_written_numbers:FnScope ["numbers","number"] [] (defScope s_written_numbers):=⟨rfl,rfl,rfl,by decide +kernel,rfl,by decide +kernel,by decide +kernel⟩
theorem b_written_numbers (T:Txt K mg t):Binds K t.fd_written_numbers [] []:=T.F_written_numbers.binds fun _ _ _ _ _ _ us hl=>by cases len_0 hl;rfl
def sp_written_numbers:Sp:=fun vs H Q _=>vs=[]∧∀ nb,H nb=none→Q (.ref nb) (upd H nb (.dK (numT 400)))
theorem ok_written_numbers (T:Txt K mg t):FnOk P w K mg base CX0 1 t.f_written_numbers t.fd_written_numbers [] (sp_written_numbers):=by
 refine T.F_written_numbers.ok sc_written_numbers (fun vs H Q E h=>?_) (fun cdv A outer s H vs Q E hr h=>?_)
 ·obtain ⟨rfl,_⟩:=h
  rfl
 ·obtain ⟨rfl,q⟩:=h
  refine ⟨_,pss_cons (ps_set (i:=0) sc_written_numbers.nd rfl (Or.inl rfl) (pe_dnewK))
 (pss_cons (ps_for PassesOwn.never rfl (pi_range1 rfl T.m_range (pa_cons (pe_glob (v:=.int 400) rfl T.mg_MOST_ROOMS.choose_spec ⟨_,rfl⟩) (pa_nil))) (pg_name (i:=1) sc_written_numbers.nd rfl (Or.inl rfl))
 (pss_one (ps_dput hr.units1 (pv 0) (pe_callTy call_str_int rfl T.m_str boot_str (pa_cons (pv 1) (pa_nil))) (pv 1) rfl)))
 (pss_one (ps_ret (pv 0)))),?_⟩
  walk_at "w";intro nb hnb
  walk_at "w";refine ⟨_,rfl,by decide,by decide,?_⟩
  refine for_range (fun k σ H'=>H'=upd H nb (.dK (numT k))∧∃ k1,σ=[some (.ref nb),k1]) ⟨rfl,_,rfl⟩ (fun k σ H' hk pp=>?_) (fun σ H' pp=>?_)
  ·obtain ⟨rfl,k1,rfl⟩:=pp
   have e0:(0:Int)+(k:Int)=(k:Int):=by omega
   rw [e0]
   have hk4:k < 400:=by omega
   walk_at "w";refine ⟨_,rfl,Nat.lt_of_lt_of_le (small_log (by omega) (by omega)) (by decide),?_⟩
   refine ⟨nb,_,rfl,DPut.k (k:=Sum.inr (numS (k:Int))) upd_same (by unfold numT;rw [List.length_map,List.length_range];exact Nat.lt_of_lt_of_le hk4 (by decide)),?_⟩
   rw [putK_new _ (numT_none hk4 k (Nat.le_refl k)),upd_upd,← numT_succ]
   exact ⟨rfl,_,rfl⟩
  ·obtain ⟨rfl,k1,rfl⟩:=pp
   walk_at "w";exact q nb hnb
theorem sc_doors_of:FnScope ["numbers","row"] ["numbers","row"] (defScope s_doors_of):=⟨rfl,rfl,rfl,by decide +kernel,rfl,by decide +kernel,by decide +kernel⟩
theorem b_doors_of (T:Txt K mg t):Binds K t.fd_doors_of ["numbers","row"] []:=T.F_doors_of.binds fun _ _ _ _ _ _ us hl=>by obtain ⟨_,_,rfl⟩:=len_2 hl;rfl
def sp_doors_of (CT:Addr):Sp:=fun vs H Q E=>∃ (nb:Addr) (x:Str),vs=[.ref nb,.str x]∧(x=""∨x="d"∨x="doors")∧E (.ref CT) none H
theorem ok_doors_of (T:Txt K mg t):FnOk P w K mg base (CXr P w) 2 t.f_doors_of t.fd_doors_of ["numbers","row"] (sp_doors_of t.C_BadText):=by
 refine T.F_doors_of.okX sc_doors_of (fun vs H Q E h=>?_) (fun cdv A outer s H vs Q E hr h=>?_)
 ·obtain ⟨nb,x,rfl,_⟩:=h
  rfl
 ·obtain ⟨nb,x,rfl,hx,qe⟩:=h
  refine ⟨_,pss_cons (ps_if (pt_not (pt_val (pe_bmK K PySem.F.plainAttrs_str PySem.F.slot_str_startswith PySem.F.type_str_startswith mt_starts (pv 1) (pa_cons (pe_glob (v:=.str "doors ") rfl T.mg_HEADING.choose_spec ⟨_,rfl⟩) (pa_nil)))))
 (pss_one (ps_raise xm_def rfl rfl T.mg_BadText T.ex_BadText.toExcCls (pa_cons (pe_str) (pa_nil))))
 (pss_nil))
 (pss_never),?_⟩
  walk_at "w";refine ⟨rfl,?_⟩
  walk_at "w";refine ⟨_,_,rfl,rfl,?_⟩
  have hs:Txt.startswith x ("doors ":Str)=false:=by
   rcases hx with rfl | rfl | rfl <;> decide +kernel
  rw [hs]
  refine ⟨_,rfl,?_⟩
  refine r_iteP rfl ?_
  walk_at "w";exact ⟨show 1≤sizeLine by decide,qe⟩
theorem sc_read:FnScope ["text","rows","numbers","doors","ways","lamps","row","parts","refusal"] ["text"] (defScope s_read):=⟨rfl,rfl,rfl,by decide +kernel,rfl,by decide +kernel,by decide +kernel⟩
theorem b_read (T:Txt K mg t):Binds K t.fd_read ["text"] []:=T.F_read.binds fun _ _ _ _ _ _ us hl=>by obtain ⟨_,rfl⟩:=len_1 hl;rfl
def sp_read (CT:Addr):Sp:=fun vs H Q E=>∃ (x:Str),vs=[.str x]∧(x=""∨x="d"∨x="doors")∧∀ H',Same H H'→E (.ref CT) none H'
theorem ok_read (T:Txt K mg t):FnOk P w K mg base (CXr P w) 5 t.f_read t.fd_read ["text"] (sp_read t.C_BadText):=by
 refine T.F_read.okX sc_read (fun vs H Q E h=>?_) (fun cdv A outer s H vs Q E hr h=>?_)
 ·obtain ⟨x,rfl,_⟩:=h
  rfl
 ·obtain ⟨x,rfl,hx,qe⟩:=h
  refine ⟨_,pss_cons (ps_set (i:=1) sc_read.nd rfl (Or.inl rfl) (pe_bmK K PySem.F.plainAttrs_str PySem.F.slot_str_split PySem.F.type_str_split mt_split (pv 0) (pa_cons (pe_str) (pa_nil))))
 (pss_cons (ps_set (i:=2) sc_read.nd rfl (Or.inr rfl) (pe_call0 (ok_written_numbers T) (hr.mono (by decide)) rfl T.mg_written_numbers T.F_written_numbers.kp (b_written_numbers T) .nil pass0))
 (pss_cons (ps_set (i:=3) sc_read.nd rfl (Or.inl rfl) (pe_call (ok_doors_of T) (hr.mono (by decide)) rfl T.mg_doors_of T.F_doors_of.kp (b_doors_of T) .nil xp_def.pass (pa_cons (pv 2) (pa_cons (pe_ix (ix_listK K) (pv 1) (pe_int) (fun _ _=>rfl)) (pa_nil)))))
 (pss_never))),?_⟩
  walk_at "w";refine ⟨rfl,?_⟩
  walk_at "w";have hs:Txt.split x ("\n":Str)=[x]:=by
   rcases hx with rfl | rfl | rfl <;> decide +kernel
  have hl:x.length≤5:=by
   rcases hx with rfl | rfl | rfl <;> decide +kernel
  refine ⟨_,_,rfl,rfl,by decide +kernel,by omega,by rw [hs];simp,?_⟩
  rw [hs]
  intro ra hra
  have s1:Same H (upd H ra (.lst ([x].map V.str))):=Same.upd_new hra
  have ra1:(upd H ra (.lst ([x].map V.str))) ra=some (.lst ([x].map V.str)):=upd_same
  generalize upd H ra (.lst ([x].map V.str))=H1 at s1 ra1 ⊢
  walk_at "w";refine ⟨rfl,fun nb hnb=>?_⟩
  have s2:Same H1 (upd H1 nb (.dK (numT 400))):=Same.upd_new hnb
  generalize upd H1 nb (.dK (numT 400))=H2 at s2 ⊢
  walk_at "w";refine r_ixL (SqL.of (s2 _ _ ra1)) (atI_nat (j:=0) rfl) ?_
  walk_at "w";exact ⟨nb,x,rfl,hx,qe _ (s1.trans s2)⟩
theorem sc_l_cell_at:FnScope ["script","k"] ["script","k"] (defScope s_l_cell_at):=⟨rfl,rfl,rfl,by decide +kernel,rfl,by decide +kernel,by decide +kernel⟩
theorem b_l_cell_at (T:Txt K mg t):Binds K t.fd_l_cell_at ["script","k"] []:=T.F_l_cell_at.binds fun _ _ _ _ _ _ us hl=>by obtain ⟨_,_,rfl⟩:=len_2 hl;rfl
def sp_l_cell_at (K:PySem.W.Frag):Sp:=fun vs H Q _=>∃ (a:Addr) (ns:List Int) (k:Int),vs=[.ref a,.int k]∧SqL K H a (ns.map V.int)∧0≤k∧Q (.int (cellv ns k)) H
theorem ok_l_cell_at (T:Txt K mg t):FnOk P w K mg base CX0 1 t.f_l_cell_at t.fd_l_cell_at ["script","k"] (sp_l_cell_at K):=by
 refine T.F_l_cell_at.ok sc_l_cell_at (fun vs H Q E h=>?_) (fun cdv A outer s H vs Q E hr h=>?_)
 ·obtain ⟨a,ns,k,rfl,_⟩:=h
  rfl
 ·obtain ⟨a,ns,k,rfl,hS,h0,q⟩:=h
  refine ⟨_,pss_cons (ps_if (pt_cmpR op_lt (pv 1) (pe_callB (call_len_seqK K) rfl T.m_len PySem.boot_len (pa_cons (pv 0) (pa_nil))) (nomark _))
 (pss_one (ps_ret (pe_ix (ix_listK K) (pv 0) (pv 1) (fun _ _=>rfl))))
 (pss_nil))
 (pss_one (ps_ret (pe_int))),?_⟩
  walk_at "w";refine ⟨a,_,rfl,.inl hS,?_⟩
  walk_at "w";refine r_ite (fun hc=>?_) (fun hc=>?_)
  ·have hc:k < (ns.map V.int).length:=of_decide_eq_true hc
   rw [List.length_map] at hc
   have hn:k.toNat < ns.length:=by omega
   walk_at "w";refine r_ixL hS (atI_get' h0 (int_map_get (List.getElem?_eq_getElem hn))) ?_
   have e:cellv ns k=ns[k.toNat]:=by
    unfold cellv
    rw [if_pos hc,List.getD_eq_getElem?_getD,List.getElem?_eq_getElem hn,Option.getD_some]
   rw [e] at q
   exact q
  ·have hc:¬ k < (ns.map V.int).length:=of_decide_eq_false hc
   rw [List.length_map] at hc
   walk_at "w";have e:cellv ns k=0:=by unfold cellv;rw [if_neg hc]
   rw [e] at q
   exact q
theorem sc_l_ring:FnScope ["doors","rooms","ways"] ["doors","rooms"] (defScope s_l_ring):=⟨rfl,rfl,rfl,by decide +kernel,rfl,by decide +kernel,by decide +kernel⟩
theorem b_l_ring (T:Txt K mg t):Binds K t.fd_l_ring ["doors","rooms"] []:=T.F_l_ring.binds fun _ _ _ _ _ _ us hl=>by obtain ⟨_,_,rfl⟩:=len_2 hl;rfl
def ringR (d r:Int):List (List Int):=(List.range r.toNat).map fun (k:Nat)=>(List.range d.toNat).map fun (_:Nat)=>((k:Int)+1) % r
def ringL (r:Int):List Bool:=List.replicate r.toNat false
theorem ring_ok {d r:Int} (h1:1≤d) (h6:d≤6) (r1:1≤r) (r4:r≤400):Valid d (ringR d r) (ringL r):=by
 have hl:(ringR d r).length=r.toNat:=by simp [ringR]
 refine { row:=fun row hr=>?_,d1:=h1,d6:=h6,r1:=by omega,r400:=by omega,ll:=by simp [ringL,hl] }
 unfold ringR at hr
 obtain ⟨k,hk,rfl⟩:=List.mem_map.mp hr
 refine ⟨by simp;omega,fun x hx=>?_⟩
 obtain ⟨j,hj,rfl⟩:=List.mem_map.mp hx
 have a1:=Int.emod_nonneg ((k:Int)+1) (show r≠0 by omega)
 have a2:=Int.emod_lt_of_pos ((k:Int)+1) (show 0 < r by omega)
 omega
def sp_l_ring (C:Addr):Sp:=fun vs H Q _=>∃ d r:Int,vs=[.int d,.int r]∧1≤d∧d≤6∧1≤r∧r≤400 ∧
 ∀ H' p aw rs al,Same H H'→HouseAt C H' p d aw rs (ringR d r) al (ringL r)→Q (.ref p) H'
theorem ok_l_ring (T:Txt K mg t):FnOk P w K mg base CX0 5 t.f_l_ring t.fd_l_ring ["doors","rooms"] (sp_l_ring t.C_House):=by
 refine T.F_l_ring.ok sc_l_ring (fun vs H Q E h=>?_) (fun cdv A outer s H vs Q E hr h=>?_)
 ·obtain ⟨d,r,rfl,_⟩:=h
  rfl
 ·obtain ⟨d,r,rfl,h1,h6,r1,r4,q⟩:=h
  have Vd:=ring_ok h1 h6 r1 r4
  refine ⟨_,pss_cons (ps_setCC (i:=2) (N:=["doors","rooms","ways"]) (sc0:=(defScope s_l_ring)) (N':=["k","doors","rooms"]) (caps:=[none,some 0,some 1]) (by exact ⟨rfl,by decide +kernel,by decide +kernel,by decide +kernel,by decide +kernel,rfl,rfl,by decide +kernel⟩) rfl sc_l_ring.nd rfl (Or.inl rfl) (pi_range1 rfl T.m_range (pa_cons (pv 1) (pa_nil))) (fun _ _ _ _ _ _=>pg_name (i:=0) (show List.Nodup (["k","doors","rooms"]:List Str) from by decide +kernel) rfl (Or.inr rfl)) (fun _ _ _ _ _ _=>pe_comp (N:=["k","doors","rooms"]) (sc0:=(relS (scE (defScope s_l_ring) (valS (nthS (defBody s_l_ring) 0))) (defScope s_l_ring))) (N':=["door","k","rooms"]) (caps:=[none,some 0,some 2]) (by exact ⟨rfl,by decide +kernel,by decide +kernel,by decide +kernel,rfl,rfl,by decide +kernel⟩) rfl (pi_range1 rfl T.m_range (pa_cons (pv 1) (pa_nil))) (fun _ _ _ _ _ _=>pg_name (i:=0) (show List.Nodup (["door","k","rooms"]:List Str) from by decide +kernel) rfl (Or.inl rfl)) (fun _ _ _ _ _ _=>pe_op op_mod (pe_op op_add (pv 1) (pe_int)) (pv 2))))
 (pss_one (ps_ret (pe_make T.mk_House (ok_House_init T) (hr.mono (by decide)) rfl T.mg_House (b_House_init T) .nil pass0X (pa_cons (pv 0) (pa_cons (pv 2) (pa_cons (pe_comp (N:=["doors","rooms","ways"]) (sc0:=(defScope s_l_ring)) (N':=["k"]) (caps:=[none]) (by exact ⟨rfl,by decide +kernel,by decide +kernel,by decide +kernel,rfl,rfl,by decide +kernel⟩) rfl (pi_range1 rfl T.m_range (pa_cons (pv 1) (pa_nil))) (fun _ _ _ _ _ _=>pg_name (i:=0) (show List.Nodup (["k"]:List Str) from by decide +kernel) rfl (Or.inl rfl)) (fun _ _ _ _ _ _=>pe_bl)) (pa_nil))))))),?_⟩
  walk_at "w";refine ⟨_,rfl,by omega,by omega,?_⟩
  refine comp_range (fun acc i ys H'=>∃ rs',ys=rs'.map V.ref∧rs'.length=i∧Grown H H' acc rs' (fun k=>(List.range d.toNat).map fun (_:Nat)=>((k:Int)+1) % r)) (fun acc hacc=>⟨[],rfl,rfl,Grown.start hacc⟩) (fun acc i ys H' hacc hi p=>?_) (fun acc ys H' hacc p=>?_)
  ·obtain ⟨rs',rfl,hlen',G⟩:=p
   have e0:(0:Int)+(i:Int)=(i:Int):=by omega
   rw [e0]
   walk_at "w";refine ⟨Wk.set rfl,?_⟩
   walk_at "w";refine ⟨_,rfl,by omega,by omega,?_⟩
   refine comp_range (fun acc2 j ys2 H2=>ys2=(List.range j).map (fun (_:Nat)=>V.int (((i:Int)+1) % r))∧H2=upd H' acc2 (.lst ys2)) (fun acc2 h2=>⟨rfl,rfl⟩) (fun acc2 j ys2 H2 h2 hj p=>?_) (fun acc2 ys2 H2 h2 p=>?_)
   ·obtain ⟨rfl,rfl⟩:=p
    walk_at "w";refine ⟨Wk.set rfl,?_⟩
    walk_at "w";refine ⟨upd_same,small1000 (by simp;omega),?_,?_⟩
    ·rw [map_range_snoc]
    ·rw [upd_upd]
   ·obtain ⟨rfl,rfl⟩:=p
    have hla:acc≠acc2:=fun z=>G.fresh h2 (by rw [z];exact List.mem_cons_self)
    refine ⟨by rw [upd_ne hla];exact G.top,small1000 (by simp;omega),rs'++[acc2],by simp,by simp [hlen'],?_⟩
    have:=G.snoc h2
    rw [hlen',List.map_map] at this
    exact this
  obtain ⟨rs',rfl,hlen',G⟩:=p
  have M1:Mat H' acc rs' (ringR d r):=by
   have:=G.mat
   rw [hlen'] at this
   exact this
  have s1:=G.same
  clear G
  walk_at "w";refine ⟨_,rfl,by omega,by omega,?_⟩
  refine comp_range (fun acc2 j ys2 H2=>ys2=(List.replicate j false).map V.bl∧H2=upd H' acc2 (.lst ys2)) (fun acc2 h2=>⟨rfl,rfl⟩) (fun acc2 j ys2 H2 h2 hj p=>?_) (fun acc2 ys2 H2 h2 p=>?_)
  ·obtain ⟨rfl,rfl⟩:=p
   walk_at "w";refine ⟨Wk.set rfl,?_⟩
   walk_at "w";refine ⟨upd_same,small1000 (by simp;omega),?_,?_⟩
   ·rw [List.replicate_succ',List.map_append];rfl
   ·rw [upd_upd]
  obtain ⟨rfl,rfl⟩:=p
  have s2:Same H' (upd H' acc2 (.lst ((List.replicate r.toNat false).map V.bl))):=Same.upd_new h2
  have l2:(upd H' acc2 (.lst ((List.replicate r.toNat false).map V.bl))) acc2=some (.lst ((List.replicate r.toNat false).map V.bl)):=upd_same
  generalize upd H' acc2 (.lst ((List.replicate r.toNat false).map V.bl))=H2 at s2 l2 ⊢
  walk_at "w";intro hp hdx e1 e2 e3
  have sm:Same H2 (upd (upd H2 hdx (.own hp)) hp (.ins t.C_House hdx [])):=(Same.upd_new e2).trans (Same.upd_new (by rw [upd_ne (Ne.symm e3)];exact e1))
  refine ⟨hp,hdx,d,acc,rs',ringR d r,acc2,ringL r,rfl,upd_same,(M1.same s2).same sm,SqL.of (sm _ _ l2),SmallH.of Vd,fun _ H8 aw8 rs8 al8 hh8 keep8 new8=>⟨rfl,?_⟩,fun nv=>absurd Vd nv⟩
  have s8:Same H2 H8:=fun b o e=>keep8 b o (sm b o e) (ne_of_none e e1)
  walk_at "w";exact q H8 hp aw8 rs8 al8 ((s1.trans s2).trans s8) hh8
theorem sc_l_taught:FnScope ["doors","learner","k"] ["doors"] (defScope s_l_taught):=⟨rfl,rfl,rfl,by decide +kernel,rfl,by decide +kernel,by decide +kernel⟩
theorem b_l_taught (T:Txt K mg t):Binds K t.fd_l_taught ["doors"] []:=T.F_l_taught.binds fun _ _ _ _ _ _ us hl=>by obtain ⟨_,rfl⟩:=len_1 hl;rfl
def knT (d:Int) (k:Nat):Bk:=((linesOf d [[]]).take k).map fun w=>(w,false)
theorem knT_step {d:Int} (h1:1≤d) (h5:d≤5) {k:Nat} (hk:k≤d.toNat):∃ w,nextQ d (knT d k) [[]] [[]]=some w∧knT d (k+1)=knT d k++[(w,false)]∧grow d (knT d (k+1)) [[]] [[]]=[[]]:=by
 have hd:d=1∨d=2∨d=3∨d=4∨d=5:=by omega
 rcases hd with rfl | rfl | rfl | rfl | rfl
 ·have hk:k=0∨k=1:=by simp at hk;omega
  rcases hk with rfl | rfl <;> exact ⟨_,rfl,rfl,by decide +kernel⟩
 ·have hk:k=0∨k=1∨k=2:=by simp at hk;omega
  rcases hk with rfl | rfl | rfl <;> exact ⟨_,rfl,rfl,by decide +kernel⟩
 ·have hk:k=0∨k=1∨k=2∨k=3:=by simp at hk;omega
  rcases hk with rfl | rfl | rfl | rfl <;> exact ⟨_,rfl,rfl,by decide +kernel⟩
 ·have hk:k=0∨k=1∨k=2∨k=3∨k=4:=by simp at hk;omega
  rcases hk with rfl | rfl | rfl | rfl | rfl <;> exact ⟨_,rfl,rfl,by decide +kernel⟩
 ·have hk:k=0∨k=1∨k=2∨k=3∨k=4∨k=5:=by simp at hk;omega
  rcases hk with rfl | rfl | rfl | rfl | rfl | rfl <;> exact ⟨_,rfl,rfl,by decide +kernel⟩
theorem knT_len {d:Int} (h1:1≤d) (h5:d≤5) (k:Nat):(knT d k).length≤6:=by
 have:(linesOf d [[]]).length=1 * (d.toNat+1):=linesOf_len d [[]]
 unfold knT
 rw [List.length_map,List.length_take]
 omega
theorem knT_small {d:Int} (h1:1≤d) (h5:d≤5) (k:Nat):Small [[]] [[]] (knT d k):=by
 have:=knT_len h1 h5 k
 exact ⟨by simp,by simp,fun x hx=>by simp at hx;subst hx;simp,by omega⟩
theorem knT_end {d:Int} (h1:1≤d) (h5:d≤5):nextQ d (knT d (d.toNat+1)) [[]] [[]]=none∧saidO (knT d (d.toNat+1)) [0,d - 1]=none∧lampW (guessW d (knT d (d.toNat+1)) [[]] [[]]) (guessL (knT d (d.toNat+1)) [[]]) [0,d - 1]=false:=by
 have hd:d=1∨d=2∨d=3∨d=4∨d=5:=by omega
 rcases hd with rfl | rfl | rfl | rfl | rfl <;> decide +kernel
def sp_l_taught (C CB:Addr):Sp:=fun vs H Q _=>∃ (d:Int),vs=[.int d]∧1≤d∧d≤5 ∧
 ∀ H' p L,Same H H'→LS C CB H' p d L (knT d (d.toNat+1)) [[]] [[]]→(∀ b∈ownL p L,H b=none)→Q (.ref p) H'
theorem ok_l_taught (T:Txt K mg t):FnOk P w K mg base CX0 7 t.f_l_taught t.fd_l_taught ["doors"] (sp_l_taught t.C_Learner t.C_Book):=by
 refine T.F_l_taught.ok sc_l_taught (fun vs H Q E h=>?_) (fun cdv A outer s H vs Q E hr h=>?_)
 ·obtain ⟨d,rfl,_⟩:=h
  rfl
 ·obtain ⟨d,rfl,hd1,hd5,q⟩:=h
  refine ⟨_,pss_cons (ps_set (i:=1) sc_l_taught.nd rfl (Or.inl rfl) (pe_make T.mk_Learner (ok_Learner_init T) (hr.mono (by decide)) rfl T.mg_Learner (b_Learner_init T) .nil pass0X (pa_cons (pv 0) (pa_nil))))
 (pss_cons (ps_for PassesOwn.never rfl (pi_range1 rfl T.m_range (pa_cons (pe_op op_add (pe_int) (pv 0)) (pa_nil))) (pg_name (i:=2) sc_l_taught.nd rfl (Or.inl rfl))
 (pss_one (ps_expr (pe_meth (pv 1) T.cl_Learner T.me_Learner_answer (ok_Learner_answer T) (hr.mono (by decide)) (b_Learner_answer T) .nil pass0X (pa_cons (pe_bl) (pa_nil))))))
 (pss_one (ps_ret (pv 1)))),?_⟩
  walk_at "w";intro lp ldx e1 e2 e3
  have sm0:Same H (upd (upd H ldx (.own lp)) lp (.ins t.C_Learner ldx [])):=(Same.upd_new e2).trans (Same.upd_new (by rw [upd_ne (Ne.symm e3)];exact e1))
  refine ⟨lp,ldx,d,rfl,upd_same,by omega,by omega,fun _ H3 L l3 keep3 new3=>⟨rfl,?_⟩,fun z=>absurd ⟨hd1,by omega⟩ z⟩
  have s3:Same H H3:=fun b o e=>keep3 b o (sm0 b o e) (ne_of_none e e1)
  have out3:∀ b∈ownL lp L,H b=none:=fun b hb=>by
   by_cases z:b=lp
   ·rw [z];exact e1
   ·exact sm0.free (new3 b hb z)
  have S3:LS t.C_Learner t.C_Book H3 lp d L [] [[]] [[]]:=by
   have R:RowsOk d [] [] [[]] [] 0:=⟨rfl,fun k r l h=>by simp at h,fun k r h=>by omega,Nat.le_refl _⟩
   have hq:nextQ d [] [[]] [[]]≠none:=fun z=>by
    obtain ⟨b,hb⟩:=next_none.mp z [] (mem_lines.mpr ⟨[],by simp,.inl rfl⟩) [] (by simp)
    simp [saidO] at hb
   exact ⟨⟨_,_,l3,R.head []⟩,LI.start d,.inl hq⟩
  clear keep3 new3 sm0 e1 e2 e3 l3
  walk_at "w";refine ⟨_,rfl,by omega,by omega,?_⟩
  refine for_range (fun k σ H'=>∃ L k2,Same H H'∧LS t.C_Learner t.C_Book H' lp d L (knT d k) [[]] [[]]∧(∀ b∈ownL lp L,H b=none)∧σ=[some (.int d),some (.ref lp),k2]) ⟨L,_,s3,S3,out3,rfl⟩ (fun k σ H4 hk pp=>?_) (fun σ H4 pp=>?_)
  ·obtain ⟨L,k2,s4,S4,o4,rfl⟩:=pp
   obtain ⟨rows,f,lr,Rw⟩:=S4.ex
   obtain ⟨dx,fs,ho,hf⟩:=lr.ob
   obtain ⟨w,hw,ek,eg⟩:=knT_step hd1 hd5 (k:=k) (by omega)
   have kl:=knT_len hd1 hd5 k
   walk_at "w";refine ⟨lp,dx,_,rfl,ho,hf.no _ (by decide +kernel),?_⟩
   walk_at "w";refine ⟨lp,d,L,knT d k,[[]],[[]],false,rfl,S4,knT_small hd1 hd5 k,by omega,hd1,by omega,fun w' hw'=>?_,fun z=>by rw [hw] at z;cases z⟩
   rw [hw] at hw'
   cases hw'
   rw [← ek]
   have kl2:=knT_len hd1 hd5 (k+1)
   refine ⟨fun hs I=>by have:=I.len;omega,fun H5 L' S5 st=>?_⟩
   rw [eg] at S5
   walk_at "w";refine ⟨L',_,fun b o e=>?_,S5,fun b hb=>?_,rfl⟩
   ·exact st.kp b o (fun z=>by rw [o4 b (own_mut z)] at e;cases e) (s4 b o e)
   ·rcases st.own b hb with h | h
    ·exact o4 b h
    ·exact s4.free h
  ·obtain ⟨L,k2,s4,S4,o4,rfl⟩:=pp
   rw [show (1+d).toNat=d.toNat+1 by omega] at S4
   walk_at "w";exact q H4 lp L s4 S4 o4
theorem sc_l_do:FnScope ["what","doors","far","book"] ["what","doors","far"] (defScope s_l_do):=⟨rfl,rfl,rfl,by decide +kernel,rfl,by decide +kernel,by decide +kernel⟩
theorem b_l_do (T:Txt K mg t):Binds K t.fd_l_do ["what","doors","far"] []:=T.F_l_do.binds fun _ _ _ _ _ _ us hl=>by obtain ⟨_,_,_,rfl⟩:=len_3 hl;rfl
def clsT (t:Adr):List Addr:=[t.C_BadHouse,t.C_BadWord,t.C_NoRoom,t.C_OtherDoors,t.C_TooGreat,t.C_NoSuch,t.C_SaidOtherwise,t.C_NotAsked,t.C_NotYet,t.C_NotWrong,t.C_BadText]
theorem ring_big:400 < (finP (ringR 1 21) (ringR 1 20)).length:=by
 have V1:=ring_ok (d:=1) (r:=21) (by decide) (by decide) (by decide) (by decide)
 have V2:=ring_ok (d:=1) (r:=20) (by decide) (by decide) (by decide) (by decide)
 have l1:(ringR 1 21).length=21:=by simp [ringR]
 have l2:(ringR 1 20).length=20:=by simp [ringR]
 have row:∀ (r:Int) (i:Nat),(i:Int) < r→rowI (ringR 1 r) (i:Int)=[((i:Int)+1) % r]:=fun r i hi=>by
  unfold rowI ringR
  rw [Int.toNat_natCast,List.getD_eq_getElem?_getD,List.getElem?_map,List.getElem?_range (by omega)]
  rfl
 have mem:∀ i:Nat,(((i % 21:Nat):Int),((i % 20:Nat):Int))∈finP (ringR 1 21) (ringR 1 20):=fun i=>by
  induction i with
  | zero =>
   obtain ⟨r,e⟩:=finP_pre (rss:=ringR 1 21) (sss:=ringR 1 20) V1.toWays V2.toWays (by omega) (by omega) 0
   rw [e]
   exact List.mem_append_left _ (List.mem_singleton.mpr rfl)
  | succ i ih =>
   refine finP_closed V1.toWays V2.toWays (by omega) (by omega) ih ?_
   unfold ahead
   rw [row 21 _ (by omega),row 20 _ (by omega)]
   have e1:(((i % 21:Nat):Int)+1) % 21=(((i+1) % 21:Nat):Int):=by omega
   have e2:(((i % 20:Nat):Int)+1) % 20=(((i+1) % 20:Nat):Int):=by omega
   rw [e1,e2]
   exact List.mem_singleton.mpr rfl
 have nd:((List.range 420).map fun i:Nat=>(((i % 21:Nat):Int),((i % 20:Nat):Int))).Nodup:=by
  rw [List.Nodup,List.pairwise_map]
  refine List.Pairwise.imp_of_mem (fun {a b} ha hb hne z=>hne ?_) List.nodup_range
  have ha:=List.mem_range.mp ha
  have hb:=List.mem_range.mp hb
  have z1:=congrArg Prod.fst z
  have z2:=congrArg Prod.snd z
  simp only at z1 z2
  omega
 have:=nodup_sub nd (m:=finP (ringR 1 21) (ringR 1 20)) fun p hp=>by
  obtain ⟨i,_,rfl⟩:=List.mem_map.mp hp
  exact mem i
 rw [List.length_map,List.length_range] at this
 omega
theorem ring_dark {d:Int} (h1:1≤d) (h5:d≤5):cntAt (ringR d 2) (ringL 2) 2 0=0:=by
 have hd:d=1∨d=2∨d=3∨d=4∨d=5:=by omega
 rcases hd with rfl | rfl | rfl | rfl | rfl <;> decide +kernel
def sp_l_do (t:Adr):Sp:=fun vs H Q E=>∃ (what:Nat) (d far:Int),vs=[.int what,.int d,.int far]∧what < 11∧1≤d∧d≤5∧0≤far∧far < 500∧∀ C H',(clsT t)[what]?=some C→E (.ref C) none H'
theorem ok_l_do (T:Txt K mg t):FnOk P w K mg base (CXr P w) 9 t.f_l_do t.fd_l_do ["what","doors","far"] (sp_l_do t):=by
 refine T.F_l_do.okX sc_l_do (fun vs H Q E h=>?_) (fun cdv A outer s H vs Q E hr h=>?_)
 ·obtain ⟨what,d,far,rfl,_⟩:=h
  rfl
 ·obtain ⟨what,d,far,rfl,hw,hd1,hd5,f0,f5,qe⟩:=h
  refine ⟨_,pss_cons (ps_join (ps_if (pt_cmpR op_eq (pv 0) (pe_int) (nomark _))
 (pss_one (ps_expr (pe_make T.mk_House (ok_House_init T) (hr.mono (by decide)) rfl T.mg_House (b_House_init T) .nil xp_def.pass (pa_cons (pe_ix (ix_listK K) (pe_lst (pa_cons (pe_op op_sub (pe_int) (pv 2)) (pa_cons (pe_op op_add (pe_int) (pv 2)) (pa_nil)))) (pe_op op_mod (pv 1) (pe_int)) (fun _ _=>rfl)) (pa_cons (pe_lst (pa_cons (pe_lst (pa_cons (pe_int) (pa_nil))) (pa_nil) star_lst)) (pa_cons (pe_lst (pa_cons (pe_bl) (pa_nil))) (pa_nil) star_lst) star_lst)))))
 (pss_nil)))
 (pss_cons (ps_join (ps_if (pt_cmpR op_eq (pv 0) (pe_int) (nomark _))
 (pss_one (ps_expr (pe_meth (pe_call (ok_l_ring T) (hr.mono (by decide)) rfl T.mg_l_ring T.F_l_ring.kp (b_l_ring T) .nil pass0 (pa_cons (pv 1) (pa_cons (pe_int) (pa_nil)))) T.cl_House T.me_House_says (ok_House_says T) (hr.mono (by decide)) (b_House_says T) .nil xp_def.pass (pa_cons (pe_lst (pa_cons (pe_int) (pa_cons (pe_op op_add (pv 1) (pv 2)) (pa_nil)))) (pa_nil) star_lst))))
 (pss_nil)))
 (pss_cons (ps_join (ps_if (pt_cmpR op_eq (pv 0) (pe_int) (nomark _))
 (pss_one (ps_expr (pe_call (ok_apart T) (hr.mono (by decide)) rfl T.mg_apart T.F_apart.kp (b_apart T) .nil xp_def.pass (pa_cons (pe_call (ok_l_ring T) (hr.mono (by decide)) rfl T.mg_l_ring T.F_l_ring.kp (b_l_ring T) .nil pass0 (pa_cons (pv 1) (pa_cons (pe_int) (pa_nil)))) (pa_cons (pe_int) (pa_cons (pe_op op_add (pe_int) (pv 2)) (pa_nil)))))))
 (pss_nil)))
 (pss_cons (ps_join (ps_if (pt_cmpR op_eq (pv 0) (pe_int) (nomark _))
 (pss_one (ps_expr (pe_call (ok_difference T) (hr.mono (by decide)) rfl T.mg_difference T.F_difference.kp (b_difference T) .nil xp_def.pass (pa_cons (pe_call (ok_l_ring T) (hr.mono (by decide)) rfl T.mg_l_ring T.F_l_ring.kp (b_l_ring T) .nil pass0 (pa_cons (pv 1) (pa_cons (pe_int) (pa_nil)))) (pa_cons (pe_call (ok_l_ring T) (hr.mono (by decide)) rfl T.mg_l_ring T.F_l_ring.kp (b_l_ring T) .nil pass0 (pa_cons (pe_op op_add (pv 1) (pe_int)) (pa_cons (pe_int) (pa_nil)))) (pa_nil))))))
 (pss_nil)))
 (pss_cons (ps_join (ps_if (pt_cmpR op_eq (pv 0) (pe_int) (nomark _))
 (pss_one (ps_expr (pe_call (ok_mixed T) (hr.mono (by decide)) rfl T.mg_mixed T.F_mixed.kp (b_mixed T) .nil xp_def.pass (pa_cons (pe_call (ok_l_ring T) (hr.mono (by decide)) rfl T.mg_l_ring T.F_l_ring.kp (b_l_ring T) .nil pass0 (pa_cons (pe_int) (pa_cons (pe_int) (pa_nil)))) (pa_cons (pe_call (ok_l_ring T) (hr.mono (by decide)) rfl T.mg_l_ring T.F_l_ring.kp (b_l_ring T) .nil pass0 (pa_cons (pe_int) (pa_cons (pe_int) (pa_nil)))) (pa_cons (pe_lst (pa_cons (pe_bl) (pa_cons (pe_bl) (pa_cons (pe_bl) (pa_cons (pe_bl) (pa_nil)))))) (pa_nil) star_lst))))))
 (pss_nil)))
 (pss_cons (ps_join (ps_if (pt_cmpR op_eq (pv 0) (pe_int) (nomark _))
 (pss_one (ps_expr (pe_call (ok_word_at T) (hr.mono (by decide)) rfl T.mg_word_at T.F_word_at.kp (b_word_at T) .nil xp_def.pass (pa_cons (pe_call (ok_l_ring T) (hr.mono (by decide)) rfl T.mg_l_ring T.F_l_ring.kp (b_l_ring T) .nil pass0 (pa_cons (pv 1) (pa_cons (pe_int) (pa_nil)))) (pa_cons (pe_int) (pa_cons (pv 2) (pa_nil)))))))
 (pss_nil)))
 (pss_cons (ps_join (ps_if (pt_cmpR op_eq (pv 0) (pe_int) (nomark _))
 (pss_cons (ps_set (i:=3) sc_l_do.nd rfl (Or.inl rfl) (pe_make T.mk_Book (ok_Book_init T) (hr.mono (by decide)) rfl T.mg_Book (b_Book_init T) .nil xp_def.pass (pa_cons (pv 1) (pa_nil))))
 (pss_cons (ps_expr (pe_meth (pv 3) T.cl_Book T.me_Book_note (ok_Book_note T) (hr.mono (by decide)) (b_Book_note T) .nil xp_def.pass (pa_cons (pe_lst (pa_cons (pe_op op_sub (pv 1) (pe_int)) (pa_nil))) (pa_cons (pe_cmpR op_eq (pe_op op_mod (pv 2) (pe_int)) (pe_int) (nomark _)) (pa_nil)) star_lst)))
 (pss_one (ps_expr (pe_meth (pv 3) T.cl_Book T.me_Book_note (ok_Book_note T) (hr.mono (by decide)) (b_Book_note T) .nil xp_def.pass (pa_cons (pe_lst (pa_cons (pe_op op_sub (pv 1) (pe_int)) (pa_nil))) (pa_cons (pe_cmpR op_eq (pe_op op_mod (pv 2) (pe_int)) (pe_int) (nomark _)) (pa_nil)) star_lst))))))
 (pss_nil)))
 (pss_cons (ps_join (ps_if (pt_cmpR op_eq (pv 0) (pe_int) (nomark _))
 (pss_one (ps_expr (pe_meth (pe_call (ok_l_taught T) (hr.mono (by decide)) rfl T.mg_l_taught T.F_l_taught.kp (b_l_taught T) .nil pass0 (pa_cons (pv 1) (pa_nil))) T.cl_Learner T.me_Learner_answer (ok_Learner_answer T) (hr.mono (by decide)) (b_Learner_answer T) .nil xp_def.pass (pa_cons (pe_bl) (pa_nil)))))
 (pss_nil)))
 (pss_cons (ps_join (ps_if (pt_cmpR op_eq (pv 0) (pe_int) (nomark _))
 (pss_one (ps_expr (pe_meth0 (pe_make T.mk_Learner (ok_Learner_init T) (hr.mono (by decide)) rfl T.mg_Learner (b_Learner_init T) .nil xp_def.pass (pa_cons (pv 1) (pa_nil))) T.cl_Learner T.me_Learner_guess (ok_Learner_guess T) (hr.mono (by decide)) (b_Learner_guess T) .nil xp_def.pass)))
 (pss_nil)))
 (pss_cons (ps_join (ps_if (pt_cmpR op_eq (pv 0) (pe_int) (nomark _))
 (pss_one (ps_expr (pe_meth (pe_call (ok_l_taught T) (hr.mono (by decide)) rfl T.mg_l_taught T.F_l_taught.kp (b_l_taught T) .nil pass0 (pa_cons (pv 1) (pa_nil))) T.cl_Learner T.me_Learner_wrong (ok_Learner_wrong T) (hr.mono (by decide)) (b_Learner_wrong T) .nil xp_def.pass (pa_cons (pe_lst (pa_cons (pe_int) (pa_cons (pe_op op_sub (pv 1) (pe_int)) (pa_nil)))) (pa_cons (pe_bl) (pa_nil)) star_lst))))
 (pss_nil)))
 (pss_one (ps_join (ps_if (pt_cmpR op_eq (pv 0) (pe_int) (nomark _))
 (pss_one (ps_expr (pe_call (ok_read T) (hr.mono (by decide)) rfl T.mg_read T.F_read.kp (b_read T) .nil xp_def.pass (pa_cons (pe_ix (ix_listK K) (pe_lst (pa_cons (pe_str) (pa_cons (pe_str) (pa_cons (pe_str) (pa_nil))))) (pe_op op_mod (pv 2) (pe_int)) (fun _ _=>rfl)) (pa_nil)))))
 (pss_nil))))))))))))),?_⟩
  walk_at "w";refine r_join (fun σ' H'=>H=H'∧what≠0∧σ'=[some (.int what),some (.int d),some (.int far),none]) ?_ ?_
  ·walk_at "w";refine r_eq rfl ?_
   walk_at "w";refine r_ite (fun hc=>?_) (fun hc=>?_)
   ·have hc:what=0:=by simp at hc;omega
    subst hc
    walk_at "w";refine ⟨by show 2≤sizeLine;decide,fun l0 hl0=>?_⟩
    have key:∃ v:Int,([V.int (0 - far),V.int (7+far)]:List V)[(d % 2).toNat]?=some (.int v)∧¬ (1≤v∧v≤6)∧-1000≤v∧v≤1000:=by
     have h2:d % 2=0∨d % 2=1:=by omega
     rcases h2 with h2 | h2
     ·rw [h2];exact ⟨0 - far,rfl,by omega,by omega,by omega⟩
     ·rw [h2];exact ⟨7+far,rfl,by omega,by omega,by omega⟩
    obtain ⟨v,hv,nv,v0,v1⟩:=key
    walk_at "w";refine r_ixL (SqL.of upd_same) (atI_get' (by omega) hv) ?_
    generalize upd H l0 (.lst [.int (0 - far),.int (7+far)])=H1
    walk_at "w";refine ⟨by show 1≤sizeLine;decide,fun r0 hr0=>?_⟩
    have r1:(upd H1 r0 (.lst [.int 0])) r0=some (.lst (([0]:List Int).map V.int)):=upd_same
    generalize upd H1 r0 (.lst [.int 0])=H2 at r1 ⊢
    walk_at "w";refine ⟨by show 1≤sizeLine;decide,fun a0 ha0=>?_⟩
    have ne:a0≠r0:=fun z=>by rw [z,r1] at ha0;cases ha0
    have M3:Mat (upd H2 a0 (.lst [.ref r0])) a0 [r0] [[0]]:=by
     refine ⟨upd_same,rfl,fun i b row h1 h2=>?_,by simp [ne]⟩
     cases i with
     | zero=>cases h1;cases h2;rw [upd_ne (Ne.symm ne)];exact r1
     | succ i=>simp at h1
    generalize upd H2 a0 (.lst [.ref r0])=H3 at M3 ⊢
    walk_at "w";refine ⟨by show 1≤sizeLine;decide,fun t0 ht0=>?_⟩
    have s4:Same H3 (upd H3 t0 (.lst [.bl true])):=Same.upd_new ht0
    have t4:(upd H3 t0 (.lst [.bl true])) t0=some (.lst (([true]:List Bool).map V.bl)):=upd_same
    generalize upd H3 t0 (.lst [.bl true])=H4 at s4 t4 ⊢
    walk_at "w";intro hp hdx e1 e2 e3
    have sm:Same H4 (upd (upd H4 hdx (.own hp)) hp (.ins t.C_House hdx [])):=(Same.upd_new e2).trans (Same.upd_new (by rw [upd_ne (Ne.symm e3)];exact e1))
    refine ⟨hp,hdx,v,a0,[r0],[[0]],t0,[true],rfl,upd_same,(M3.same s4).same sm,SqL.of (sm _ _ t4),⟨by omega,by omega,fun row hrow x hx=>?_,by decide⟩,fun V'=>absurd ⟨V'.d1,V'.d6⟩ nv,fun _ H' _=>qe _ _ rfl⟩
    simp at hrow
    subst hrow
    simp at hx
    subst hx
    decide
   ·walk_at "w";exact ⟨rfl,(fun z=>by subst z;simp at hc),rfl⟩
  rintro σ' H' ⟨rfl,n0,rfl⟩
  walk_at "w";refine r_join (fun σ' H'=>H=H'∧what≠1∧σ'=[some (.int what),some (.int d),some (.int far),none]) ?_ ?_
  ·walk_at "w";refine r_eq rfl ?_
   walk_at "w";refine r_ite (fun hc=>?_) (fun hc=>?_)
   ·have hc:what=1:=by simp at hc;omega
    subst hc
    walk_at "w";refine ⟨d,3,rfl,hd1,by omega,by decide,by decide,fun H1 p aw rs al s1 hh=>?_⟩
    have V:=ring_ok (d:=d) (r:=3) hd1 (by omega) (by decide) (by decide)
    obtain ⟨dx,ho⟩:=hh.ob
    walk_at "w";refine ⟨p,dx,_,rfl,ho,hfs_no _ _ _ (by decide +kernel) (by decide +kernel) (by decide +kernel),?_⟩
    walk_at "w";refine ⟨by show 2≤sizeLine;decide,fun l2 h2=>?_⟩
    have s2:Same H1 (upd H1 l2 (.lst [.int 0,.int (d+far)])):=Same.upd_new h2
    refine ⟨p,d,aw,rs,_,al,_,l2,[0,d+far],rfl,hh.same s2,V.toWays,by have:=V.r1;omega,V.ll,SqL.of upd_same,?_,by simp,fun w=>?_,fun _=>qe _ _ rfl⟩
    ·intro x hx
     simp at hx
     rcases hx with rfl | rfl <;> omega
    ·exfalso
     have:=w (d+far) (by simp)
     omega
   ·walk_at "w";exact ⟨rfl,(fun z=>by subst z;simp at hc),rfl⟩
  rintro σ' H' ⟨rfl,n1,rfl⟩
  walk_at "w";refine r_join (fun σ' H'=>H=H'∧what≠2∧σ'=[some (.int what),some (.int d),some (.int far),none]) ?_ ?_
  ·walk_at "w";refine r_eq rfl ?_
   walk_at "w";refine r_ite (fun hc=>?_) (fun hc=>?_)
   ·have hc:what=2:=by simp at hc;omega
    subst hc
    walk_at "w";refine ⟨d,3,rfl,hd1,by omega,by decide,by decide,fun H1 p aw rs al s1 hh=>?_⟩
    have V:=ring_ok (d:=d) (r:=3) hd1 (by omega) (by decide) (by decide)
    have hl:(ringR d 3).length=3:=by simp [ringR]
    walk_at "w";exact ⟨p,d,aw,rs,_,al,_,0,3+far,rfl,hh,by decide,by omega,by omega,by omega,by omega,qe _ _ rfl⟩
   ·walk_at "w";exact ⟨rfl,(fun z=>by subst z;simp at hc),rfl⟩
  rintro σ' H' ⟨rfl,n2,rfl⟩
  walk_at "w";refine r_join (fun σ' H'=>H=H'∧what≠3∧σ'=[some (.int what),some (.int d),some (.int far),none]) ?_ ?_
  ·walk_at "w";refine r_eq rfl ?_
   walk_at "w";refine r_ite (fun hc=>?_) (fun hc=>?_)
   ·have hc:what=3:=by simp at hc;omega
    subst hc
    walk_at "w";refine ⟨d,2,rfl,hd1,by omega,by decide,by decide,fun H1 p aw rs al s1 hh=>?_⟩
    walk_at "w";refine ⟨d+1,2,rfl,by omega,by omega,by decide,by decide,fun H2 p2 aw2 rs2 al2 s2 hh2=>?_⟩
    walk_at "w";exact ⟨p,d,aw,rs,_,al,_,p2,d+1,aw2,rs2,_,al2,_,rfl,hh.same s2,hh2,by omega,qe _ _ rfl⟩
   ·walk_at "w";exact ⟨rfl,(fun z=>by subst z;simp at hc),rfl⟩
  rintro σ' H' ⟨rfl,n3,rfl⟩
  walk_at "w";refine r_join (fun σ' H'=>H=H'∧what≠4∧σ'=[some (.int what),some (.int d),some (.int far),none]) ?_ ?_
  ·walk_at "w";refine r_eq rfl ?_
   walk_at "w";refine r_ite (fun hc=>?_) (fun hc=>?_)
   ·have hc:what=4:=by simp at hc;omega
    subst hc
    walk_at "w";refine ⟨1,21,rfl,by decide,by decide,by decide,by decide,fun H1 p aw rs al s1 hh=>?_⟩
    walk_at "w";refine ⟨1,20,rfl,by decide,by decide,by decide,by decide,fun H2 p2 aw2 rs2 al2 s2 hh2=>?_⟩
    walk_at "w";refine ⟨by show 4≤sizeLine;decide,fun l3 h3=>?_⟩
    have s3:Same H2 (upd H2 l3 (.lst [.bl true,.bl false,.bl false,.bl true])):=Same.upd_new h3
    exact ⟨p,p2,_,1,aw,rs,_,al,_,aw2,rs2,_,al2,_,rfl,hh.same (s2.trans s3),hh2.same s3,ring_ok (by decide) (by decide) (by decide) (by decide),ring_ok (by decide) (by decide) (by decide) (by decide),ring_big,fun H' _=>qe _ _ rfl⟩
   ·walk_at "w";exact ⟨rfl,(fun z=>by subst z;simp at hc),rfl⟩
  rintro σ' H' ⟨rfl,n4,rfl⟩
  walk_at "w";refine r_join (fun σ' H'=>H=H'∧what≠5∧σ'=[some (.int what),some (.int d),some (.int far),none]) ?_ ?_
  ·walk_at "w";refine r_eq rfl ?_
   walk_at "w";refine r_ite (fun hc=>?_) (fun hc=>?_)
   ·have hc:what=5:=by simp at hc;omega
    subst hc
    walk_at "w";refine ⟨d,2,rfl,hd1,by omega,by decide,by decide,fun H1 p aw rs al s1 hh=>?_⟩
    have V:=ring_ok (d:=d) (r:=2) hd1 (by omega) (by decide) (by decide)
    have hl:(ringR d 2).length=2:=by simp [ringR]
    walk_at "w";exact ⟨p,d,aw,rs,_,al,_,2,far,rfl,hh,V.toWays,by omega,by omega,by omega,V.ll,by decide,by decide,(fun z=>by have h9:cntAt (ringR d 2) (ringL 2) (Int.toNat 2) 0=0:=ring_dark hd1 hd5;have:=z.2;omega),fun H' _=>qe _ _ rfl⟩
   ·walk_at "w";exact ⟨rfl,(fun z=>by subst z;simp at hc),rfl⟩
  rintro σ' H' ⟨rfl,n5,rfl⟩
  walk_at "w";refine r_join (fun σ' H'=>H=H'∧what≠6∧σ'=[some (.int what),some (.int d),some (.int far),none]) ?_ ?_
  ·walk_at "w";refine r_eq rfl ?_
   walk_at "w";refine r_ite (fun hc=>?_) (fun hc=>?_)
   ·have hc:what=6:=by simp at hc;omega
    subst hc
    walk_at "w";intro lp ldx e1 e2 e3
    refine ⟨lp,ldx,d,rfl,upd_same,by omega,by omega,fun _ H3 nb b3 keep3 new3=>⟨rfl,?_⟩,fun z=>absurd ⟨hd1,by omega⟩ z⟩
    obtain ⟨bdx,bo⟩:=b3.ob
    clear keep3 new3 e1 e2 e3
    have wok:WordOk d [d - 1]:=fun x hx=>by rw [List.mem_singleton.mp hx];omega
    have wsm:SmallW [d - 1]:=fun x hx=>by rw [List.mem_singleton.mp hx];omega
    have hno:saidO [] [d - 1]=none:=rfl
    walk_at "w";refine ⟨lp,bdx,_,rfl,bo,bkf_no _ _ (by decide +kernel) (by decide +kernel),?_⟩
    walk_at "w";refine ⟨by show 1≤sizeLine;decide,fun w1 hw1=>?_⟩
    have s4:Same H3 (upd H3 w1 (.lst [.int (d - 1)])):=Same.upd_new hw1
    have w4:(upd H3 w1 (.lst [.int (d - 1)])) w1=some (.lst ([d - 1].map V.int)):=upd_same
    generalize upd H3 w1 (.lst [.int (d - 1)])=H4 at s4 w4 ⊢
    walk_at "w";refine r_eq rfl ?_
    refine ⟨lp,d,nb,[],w1,[d - 1],_,rfl,b3.same s4,SqL.of w4,wsm,by decide,fun _ _ H5 b5 k5=>?_,(fun _ z=>by rw [hno] at z;cases z),(fun _ z=>by rw [hno] at z;cases z),fun z=>absurd wok z⟩
    clear b3 bo
    obtain ⟨bdx,bo⟩:=b5.ob
    walk_at "w";refine ⟨lp,bdx,_,rfl,bo,bkf_no _ _ (by decide +kernel) (by decide +kernel),?_⟩
    walk_at "w";refine ⟨by show 1≤sizeLine;decide,fun w2 hw2=>?_⟩
    have s6:Same H5 (upd H5 w2 (.lst [.int (d - 1)])):=Same.upd_new hw2
    have w6:(upd H5 w2 (.lst [.int (d - 1)])) w2=some (.lst ([d - 1].map V.int)):=upd_same
    generalize upd H5 w2 (.lst [.int (d - 1)])=H6 at s6 w6 ⊢
    walk_at "w";refine r_eq rfl ?_
    have hsd:∀ x y:Bool,x=!y→saidO ([]++[([d - 1],x)]) [d - 1]=some (!y):=fun x y e=>by simp [saidO,e]
    have hxy:decide (V.int (far % 2)=V.int 0)=!decide (V.int (far % 2)=V.int 1):=by
     have h2:far % 2=0∨far % 2=1:=by omega
     rcases h2 with h2 | h2 <;> rw [h2] <;> decide
    refine ⟨lp,d,nb,_,w2,[d - 1],_,rfl,b5.same s6,SqL.of w6,wsm,by simp,fun _ z=>?_,fun _ z=>?_,fun _ _ H7 _=>qe _ _ rfl,fun z=>absurd wok z⟩
    ·rw [hsd _ _ hxy] at z;cases z
    ·rw [hsd _ _ hxy] at z
     have z:=Option.some.inj z
     revert z
     cases decide (V.int (far % 2)=V.int 1) <;> simp
   ·walk_at "w";exact ⟨rfl,(fun z=>by subst z;simp at hc),rfl⟩
  rintro σ' H' ⟨rfl,n6,rfl⟩
  walk_at "w";refine r_join (fun σ' H'=>H=H'∧what≠7∧σ'=[some (.int what),some (.int d),some (.int far),none]) ?_ ?_
  ·walk_at "w";refine r_eq rfl ?_
   walk_at "w";refine r_ite (fun hc=>?_) (fun hc=>?_)
   ·have hc:what=7:=by simp at hc;omega
    subst hc
    walk_at "w";refine ⟨d,rfl,hd1,hd5,fun H1 p L s1 S1 o1=>?_⟩
    obtain ⟨rows,f,lr,Rw⟩:=S1.ex
    obtain ⟨dx,fs,ho,hf⟩:=lr.ob
    have kl:=knT_len hd1 hd5 (d.toNat+1)
    walk_at "w";refine ⟨p,dx,_,rfl,ho,hf.no _ (by decide +kernel),?_⟩
    walk_at "w";exact ⟨p,d,L,_,[[]],[[]],true,rfl,S1,knT_small hd1 hd5 _,by omega,hd1,by omega,(fun w hw=>by rw [(knT_end hd1 hd5).1] at hw;cases hw),fun _ H' _ _=>qe _ _ rfl⟩
   ·walk_at "w";exact ⟨rfl,(fun z=>by subst z;simp at hc),rfl⟩
  rintro σ' H' ⟨rfl,n7,rfl⟩
  walk_at "w";refine r_join (fun σ' H'=>H=H'∧what≠8∧σ'=[some (.int what),some (.int d),some (.int far),none]) ?_ ?_
  ·walk_at "w";refine r_eq rfl ?_
   walk_at "w";refine r_ite (fun hc=>?_) (fun hc=>?_)
   ·have hc:what=8:=by simp at hc;omega
    subst hc
    walk_at "w";intro lp ldx e1 e2 e3
    refine ⟨lp,ldx,d,rfl,upd_same,by omega,by omega,fun _ H3 L l3 keep3 new3=>⟨rfl,?_⟩,fun z=>absurd ⟨hd1,by omega⟩ z⟩
    obtain ⟨dx,fs,ho,hf⟩:=l3.ob
    have hq:nextQ d [] [[]] [[]]≠none:=fun z=>by
     obtain ⟨b,hb⟩:=next_none.mp z [] (mem_lines.mpr ⟨[],by simp,.inl rfl⟩) [] (by simp)
     simp [saidO] at hb
    have S3:LS t.C_Learner t.C_Book H3 lp d L [] [[]] [[]]:=by
     have R:RowsOk d [] [] [[]] [] 0:=⟨rfl,fun k r l h=>by simp at h,fun k r h=>by omega,Nat.le_refl _⟩
     exact ⟨⟨_,_,l3,R.head []⟩,LI.start d,.inl hq⟩
    walk_at "w";refine ⟨lp,dx,_,rfl,ho,hf.no _ (by decide +kernel),?_⟩
    exact ⟨lp,d,L,[],[[]],[[]],rfl,S3,knT_small hd1 hd5 0,hd1,by omega,fun Cl=>absurd Cl.q hq,fun _ H' _ _=>qe _ _ rfl⟩
   ·walk_at "w";exact ⟨rfl,(fun z=>by subst z;simp at hc),rfl⟩
  rintro σ' H' ⟨rfl,n8,rfl⟩
  walk_at "w";refine r_join (fun σ' H'=>H=H'∧what≠9∧σ'=[some (.int what),some (.int d),some (.int far),none]) ?_ ?_
  ·walk_at "w";refine r_eq rfl ?_
   walk_at "w";refine r_ite (fun hc=>?_) (fun hc=>?_)
   ·have hc:what=9:=by simp at hc;omega
    subst hc
    walk_at "w";refine ⟨d,rfl,hd1,hd5,fun H1 p L s1 S1 o1=>?_⟩
    obtain ⟨rows,f,lr,Rw⟩:=S1.ex
    obtain ⟨dx,fs,ho,hf⟩:=lr.ob
    have kl:=knT_len hd1 hd5 (d.toNat+1)
    walk_at "w";refine ⟨p,dx,_,rfl,ho,hf.no _ (by decide +kernel),?_⟩
    walk_at "w";refine ⟨by show 2≤sizeLine;decide,fun l2 h2=>?_⟩
    have s2:Same H1 (upd H1 l2 (.lst [.int 0,.int (d - 1)])):=Same.upd_new h2
    obtain ⟨k1,k2,k3⟩:=knT_end hd1 hd5
    refine ⟨p,d,L,_,[[]],[[]],l2,[0,d - 1],false,rfl,S1.same s2,knT_small hd1 hd5 _,by omega,hd1,by omega,upd_same,fun z=>?_,?_,by simp,fun _ _ _ z=>?_,fun z=>absurd k1 z,fun _ z=>absurd ?_ z,fun _ _ z=>?_,fun _ _ _ _ H' _ _=>qe _ _ rfl⟩
    ·exact lr.notOwn h2 z
    ·intro x hx
     simp at hx
     rcases hx with rfl | rfl <;> omega
    ·rw [k3] at z;cases z
    ·intro x hx
     simp at hx
     rcases hx with rfl | rfl <;> omega
    ·rw [k2] at z;cases z
   ·walk_at "w";exact ⟨rfl,(fun z=>by subst z;simp at hc),rfl⟩
  rintro σ' H' ⟨rfl,n9,rfl⟩
  walk_at "w";refine r_join (fun σ' H'=>H=H'∧what≠10∧σ'=[some (.int what),some (.int d),some (.int far),none]) ?_ ?_
  ·walk_at "w";refine r_eq rfl ?_
   walk_at "w";refine r_ite (fun hc=>?_) (fun hc=>?_)
   ·have hc:what=10:=by simp at hc;omega
    subst hc
    walk_at "w";refine ⟨by show 3≤sizeLine;decide,fun l0 hl0=>?_⟩
    have key:∃ x:Str,([V.str "",V.str "d",V.str "doors"]:List V)[(far % 3).toNat]?=some (.str x)∧(x=""∨x="d"∨x="doors"):=by
     have h3:far % 3=0∨far % 3=1∨far % 3=2:=by omega
     rcases h3 with h3 | h3 | h3
     ·rw [h3];exact ⟨_,rfl,.inl rfl⟩
     ·rw [h3];exact ⟨_,rfl,.inr (.inl rfl)⟩
     ·rw [h3];exact ⟨_,rfl,.inr (.inr rfl)⟩
    obtain ⟨x,hx,hx3⟩:=key
    walk_at "w";refine r_ixL (SqL.of upd_same) (atI_get' (by omega) hx) ?_
    walk_at "w";exact ⟨x,rfl,hx3,fun H' _=>qe _ _ rfl⟩
   ·walk_at "w";exact ⟨rfl,(fun z=>by subst z;simp at hc),rfl⟩
  rintro σ' H' ⟨rfl,n10,rfl⟩
  omega
theorem sc_l_marks:FnScope ["e","own"] ["e"] (defScope s_l_marks):=⟨rfl,rfl,rfl,by decide +kernel,rfl,by decide +kernel,by decide +kernel⟩
theorem b_l_marks (T:Txt K mg t):Binds K t.fd_l_marks ["e"] []:=T.F_l_marks.binds fun _ _ _ _ _ _ us hl=>by obtain ⟨_,rfl⟩:=len_1 hl;rfl
def marksOf (what:Nat):List Bool:=(List.range 12).map fun k=>decide (k=what) || decide (k=11)
def sp_l_marks (K:PySem.W.Frag) (t:Adr):Sp:=fun vs H Q _=>∃ (ea C:Addr) (x:Str) (k:Nat),vs=[.ref ea]∧H ea=some (.ext (ExcAt ea C))∧ExcK K x C∧PySem.W.kitOne K (.ref C) (.type "ValueError")=some true∧k < 11∧(∀ j,j < 11→∀ C',(clsT t)[j]?=some C'→PySem.W.kitOne K (.ref C) (.ref C')=some (decide (j=k))) ∧
 ∀ H' l,Same H H'→H l=none→H' l=some (.lst ((marksOf k).map V.bl))→Q (.ref l) H'
theorem ok_l_marks (T:Txt K mg t):FnOkH P w K mg base CX0 1 t.f_l_marks t.fd_l_marks ["e"] (sp_l_marks K t):=by
 refine T.F_l_marks.okH sc_l_marks (fun vs H Q E h=>?_) (fun cdv A outer s H vs Q E hr h=>?_)
 ·obtain ⟨ea,C,x,k,rfl,_⟩:=h
  rfl
 ·obtain ⟨ea,C,x,k,rfl,he,O,kv,hk,hc,q⟩:=h
  refine ⟨_,pss_cons (ps_set (i:=1) sc_l_marks.nd rfl (Or.inl rfl) (pe_lst (pa_cons (pe_callB (call_isinstX K) rfl T.m_isinstance boot_isinstance (pa_cons (pv 0) (pa_cons (pe_glob (v:=.ref _) rfl T.mg_BadHouse rfl) (pa_nil)))) (pa_cons (pe_callB (call_isinstX K) rfl T.m_isinstance boot_isinstance (pa_cons (pv 0) (pa_cons (pe_glob (v:=.ref _) rfl T.mg_BadWord rfl) (pa_nil)))) (pa_cons (pe_callB (call_isinstX K) rfl T.m_isinstance boot_isinstance (pa_cons (pv 0) (pa_cons (pe_glob (v:=.ref _) rfl T.mg_NoRoom rfl) (pa_nil)))) (pa_cons (pe_callB (call_isinstX K) rfl T.m_isinstance boot_isinstance (pa_cons (pv 0) (pa_cons (pe_glob (v:=.ref _) rfl T.mg_OtherDoors rfl) (pa_nil)))) (pa_nil)))))))
 (pss_cons (ps_set (i:=1) sc_l_marks.nd rfl (Or.inl rfl) (pe_op op_cat (pv 1) (pe_lst (pa_cons (pe_callB (call_isinstX K) rfl T.m_isinstance boot_isinstance (pa_cons (pv 0) (pa_cons (pe_glob (v:=.ref _) rfl T.mg_TooGreat rfl) (pa_nil)))) (pa_cons (pe_callB (call_isinstX K) rfl T.m_isinstance boot_isinstance (pa_cons (pv 0) (pa_cons (pe_glob (v:=.ref _) rfl T.mg_NoSuch rfl) (pa_nil)))) (pa_cons (pe_callB (call_isinstX K) rfl T.m_isinstance boot_isinstance (pa_cons (pv 0) (pa_cons (pe_glob (v:=.ref _) rfl T.mg_SaidOtherwise rfl) (pa_nil)))) (pa_nil)))))))
 (pss_cons (ps_set (i:=1) sc_l_marks.nd rfl (Or.inl rfl) (pe_op op_cat (pv 1) (pe_lst (pa_cons (pe_callB (call_isinstX K) rfl T.m_isinstance boot_isinstance (pa_cons (pv 0) (pa_cons (pe_glob (v:=.ref _) rfl T.mg_NotAsked rfl) (pa_nil)))) (pa_cons (pe_callB (call_isinstX K) rfl T.m_isinstance boot_isinstance (pa_cons (pv 0) (pa_cons (pe_glob (v:=.ref _) rfl T.mg_NotYet rfl) (pa_nil)))) (pa_cons (pe_callB (call_isinstX K) rfl T.m_isinstance boot_isinstance (pa_cons (pv 0) (pa_cons (pe_glob (v:=.ref _) rfl T.mg_NotWrong rfl) (pa_nil)))) (pa_cons (pe_callB (call_isinstX K) rfl T.m_isinstance boot_isinstance (pa_cons (pv 0) (pa_cons (pe_glob (v:=.ref _) rfl T.mg_BadText rfl) (pa_nil)))) (pa_nil))))))))
 (pss_one (ps_ret (pe_op op_cat (pv 1) (pe_lst (pa_cons (pe_callB (call_isinstX K) rfl T.m_isinstance boot_isinstance (pa_cons (pv 0) (pa_cons (pe_bltn (v:=.ty "ValueError") (u:=.type "ValueError") rfl T.m_ValueError (by decide +kernel) rfl) (pa_nil)))) (pa_nil)))))))),?_⟩
  obtain ⟨mo,mk⟩:∃ mo:Nat→Bool,∀ j,j < 11→∀ C',(clsT t)[j]?=some C'→PySem.W.kitOne K (.ref C) (.ref C')=some (mo j):=⟨fun j=>decide (j=k),hc⟩
  have hmk:∀ j,j < 11→mo j=decide (j=k):=fun j hj=>by
   obtain ⟨C',e⟩:∃ C',(clsT t)[j]?=some C':=⟨_,List.getElem?_eq_getElem (show j < (clsT t).length from hj)⟩
   have h1:=mk j hj C' e
   rw [hc j hj C' e] at h1
   exact (Option.some.inj h1).symm
  walk_at "w";refine ⟨ea,C,x,_,_,mo 0,rfl,he,O,rfl,mk 0 (by decide) _ rfl,?_⟩
  walk_at "w";refine ⟨ea,C,x,_,_,mo 1,rfl,he,O,rfl,mk 1 (by decide) _ rfl,?_⟩
  walk_at "w";refine ⟨ea,C,x,_,_,mo 2,rfl,he,O,rfl,mk 2 (by decide) _ rfl,?_⟩
  walk_at "w";refine ⟨ea,C,x,_,_,mo 3,rfl,he,O,rfl,mk 3 (by decide) _ rfl,?_⟩
  walk_at "w";refine ⟨by show 4≤sizeLine;decide,fun l1 h1=>?_⟩
  have s1:Same H (upd H l1 (.lst [.bl (mo 0),.bl (mo 1),.bl (mo 2),.bl (mo 3)])):=Same.upd_new h1
  have a1:(upd H l1 (.lst [.bl (mo 0),.bl (mo 1),.bl (mo 2),.bl (mo 3)])) l1=some (.lst [.bl (mo 0),.bl (mo 1),.bl (mo 2),.bl (mo 3)]):=upd_same
  generalize upd H l1 (.lst [.bl (mo 0),.bl (mo 1),.bl (mo 2),.bl (mo 3)])=H1 at s1 a1 ⊢
  have he1:=s1 _ _ he
  walk_at "w";refine ⟨ea,C,x,_,_,mo 4,rfl,he1,O,rfl,mk 4 (by decide) _ rfl,?_⟩
  walk_at "w";refine ⟨ea,C,x,_,_,mo 5,rfl,he1,O,rfl,mk 5 (by decide) _ rfl,?_⟩
  walk_at "w";refine ⟨ea,C,x,_,_,mo 6,rfl,he1,O,rfl,mk 6 (by decide) _ rfl,?_⟩
  walk_at "w";refine ⟨by show 3≤sizeLine;decide,fun l2 h2=>?_⟩
  have s2:Same H1 (upd H1 l2 (.lst [.bl (mo 4),.bl (mo 5),.bl (mo 6)])):=Same.upd_new h2
  have a2:(upd H1 l2 (.lst [.bl (mo 4),.bl (mo 5),.bl (mo 6)])) l2=some (.lst [.bl (mo 4),.bl (mo 5),.bl (mo 6)]):=upd_same
  generalize upd H1 l2 (.lst [.bl (mo 4),.bl (mo 5),.bl (mo 6)])=H2 at s2 a2 ⊢
  refine ⟨l1,l2,_,_,rfl,rfl,s2 _ _ a1,a2,by show 7≤sizeLine;decide,fun l3 h3=>?_⟩
  rw [show ([V.bl (mo 0),V.bl (mo 1),V.bl (mo 2),V.bl (mo 3)]++[V.bl (mo 4),V.bl (mo 5),V.bl (mo 6)]:List V)=[V.bl (mo 0),V.bl (mo 1),V.bl (mo 2),V.bl (mo 3),V.bl (mo 4),V.bl (mo 5),V.bl (mo 6)] from rfl]
  have s3:Same H2 (upd H2 l3 (.lst [.bl (mo 0),.bl (mo 1),.bl (mo 2),.bl (mo 3),.bl (mo 4),.bl (mo 5),.bl (mo 6)])):=Same.upd_new h3
  have a3:(upd H2 l3 (.lst [.bl (mo 0),.bl (mo 1),.bl (mo 2),.bl (mo 3),.bl (mo 4),.bl (mo 5),.bl (mo 6)])) l3=some (.lst [.bl (mo 0),.bl (mo 1),.bl (mo 2),.bl (mo 3),.bl (mo 4),.bl (mo 5),.bl (mo 6)]):=upd_same
  generalize upd H2 l3 (.lst [.bl (mo 0),.bl (mo 1),.bl (mo 2),.bl (mo 3),.bl (mo 4),.bl (mo 5),.bl (mo 6)])=H3 at s3 a3 ⊢
  have he3:=s3 _ _ (s2 _ _ he1)
  walk_at "w";refine ⟨ea,C,x,_,_,mo 7,rfl,he3,O,rfl,mk 7 (by decide) _ rfl,?_⟩
  walk_at "w";refine ⟨ea,C,x,_,_,mo 8,rfl,he3,O,rfl,mk 8 (by decide) _ rfl,?_⟩
  walk_at "w";refine ⟨ea,C,x,_,_,mo 9,rfl,he3,O,rfl,mk 9 (by decide) _ rfl,?_⟩
  walk_at "w";refine ⟨ea,C,x,_,_,mo 10,rfl,he3,O,rfl,mk 10 (by decide) _ rfl,?_⟩
  walk_at "w";refine ⟨by show 4≤sizeLine;decide,fun l4 h4=>?_⟩
  have s4:Same H3 (upd H3 l4 (.lst [.bl (mo 7),.bl (mo 8),.bl (mo 9),.bl (mo 10)])):=Same.upd_new h4
  have a4:(upd H3 l4 (.lst [.bl (mo 7),.bl (mo 8),.bl (mo 9),.bl (mo 10)])) l4=some (.lst [.bl (mo 7),.bl (mo 8),.bl (mo 9),.bl (mo 10)]):=upd_same
  generalize upd H3 l4 (.lst [.bl (mo 7),.bl (mo 8),.bl (mo 9),.bl (mo 10)])=H4 at s4 a4 ⊢
  refine ⟨l3,l4,_,_,rfl,rfl,s4 _ _ a3,a4,by show 11≤sizeLine;decide,fun l5 h5=>?_⟩
  rw [show ([V.bl (mo 0),V.bl (mo 1),V.bl (mo 2),V.bl (mo 3),V.bl (mo 4),V.bl (mo 5),V.bl (mo 6)]++[V.bl (mo 7),V.bl (mo 8),V.bl (mo 9),V.bl (mo 10)]:List V)=[V.bl (mo 0),V.bl (mo 1),V.bl (mo 2),V.bl (mo 3),V.bl (mo 4),V.bl (mo 5),V.bl (mo 6),V.bl (mo 7),V.bl (mo 8),V.bl (mo 9),V.bl (mo 10)] from rfl]
  have s5:Same H4 (upd H4 l5 (.lst [.bl (mo 0),.bl (mo 1),.bl (mo 2),.bl (mo 3),.bl (mo 4),.bl (mo 5),.bl (mo 6),.bl (mo 7),.bl (mo 8),.bl (mo 9),.bl (mo 10)])):=Same.upd_new h5
  have a5:(upd H4 l5 (.lst [.bl (mo 0),.bl (mo 1),.bl (mo 2),.bl (mo 3),.bl (mo 4),.bl (mo 5),.bl (mo 6),.bl (mo 7),.bl (mo 8),.bl (mo 9),.bl (mo 10)])) l5=some (.lst [.bl (mo 0),.bl (mo 1),.bl (mo 2),.bl (mo 3),.bl (mo 4),.bl (mo 5),.bl (mo 6),.bl (mo 7),.bl (mo 8),.bl (mo 9),.bl (mo 10)]):=upd_same
  generalize upd H4 l5 (.lst [.bl (mo 0),.bl (mo 1),.bl (mo 2),.bl (mo 3),.bl (mo 4),.bl (mo 5),.bl (mo 6),.bl (mo 7),.bl (mo 8),.bl (mo 9),.bl (mo 10)])=H5 at s5 a5 ⊢
  have he5:=s5 _ _ (s4 _ _ he3)
  walk_at "w";refine ⟨ea,C,x,_,_,true,rfl,he5,O,rfl,kv,?_⟩
  walk_at "w";refine ⟨by show 1≤sizeLine;decide,fun l6 h6=>?_⟩
  have s6:Same H5 (upd H5 l6 (.lst [.bl true])):=Same.upd_new h6
  have a6:(upd H5 l6 (.lst [.bl true])) l6=some (.lst [.bl true]):=upd_same
  generalize upd H5 l6 (.lst [.bl true])=H6 at s6 a6 ⊢
  refine ⟨l5,l6,_,_,rfl,rfl,s6 _ _ a5,a6,by show 12≤sizeLine;decide,fun l7 h7=>?_⟩
  have s06:Same H H6:=s1.trans (s2.trans (Same.trans s3 (s4.trans (s5.trans s6))))
  have s7:=s06.trans (Same.upd_new (o:=.lst ([.bl (mo 0),.bl (mo 1),.bl (mo 2),.bl (mo 3),.bl (mo 4),.bl (mo 5),.bl (mo 6),.bl (mo 7),.bl (mo 8),.bl (mo 9),.bl (mo 10)]++[.bl true])) h7)
  refine q _ l7 s7 (s06.free h7) ?_
  rw [upd_same]
  have e:marksOf k=[mo 0,mo 1,mo 2,mo 3,mo 4,mo 5,mo 6,mo 7,mo 8,mo 9,mo 10]++[true]:=by
   unfold marksOf
   rw [hmk 0 (by decide),hmk 1 (by decide),hmk 2 (by decide),hmk 3 (by decide),hmk 4 (by decide),hmk 5 (by decide),hmk 6 (by decide),hmk 7 (by decide),hmk 8 (by decide),hmk 9 (by decide),hmk 10 (by decide)]
   have hk:k=0∨k=1∨k=2∨k=3∨k=4∨k=5∨k=6∨k=7∨k=8∨k=9∨k=10:=by omega
   rcases hk with rfl | rfl | rfl | rfl | rfl | rfl | rfl | rfl | rfl | rfl | rfl <;> decide
  rw [e];rfl
theorem sc_law:FnScope ["script","doors","far","what","marks","e"] ["script"] (defScope s_law):=⟨rfl,rfl,rfl,by decide +kernel,rfl,by decide +kernel,by decide +kernel⟩
def sp_law (K:PySem.W.Frag):Sp:=fun vs H Q _=>∃ (a:Addr) (ns:List Int),vs=[.ref a]∧SqL K H a (ns.map V.int)∧ns.length≤63∧∀ H',Q (.bl true) H'
theorem exF {K:PySem.W.Frag} {mg:Str→Option Value} {t:Adr} (T:Txt K mg t) (k:Nat) (C:Addr) (h:(clsT t)[k]?=some C):PySem.W.exmOne K (.ref C) (.ref t.C_HouseError)=some true∧(∃ x,ExcK K x C)∧PySem.W.kitOne K (.ref C) (.type "ValueError")=some true∧(∀ j,j < 11→∀ C',(clsT t)[j]?=some C'→PySem.W.kitOne K (.ref C) (.ref C')=some (decide (j=k))):=by
 have hk:k < 11:=(List.getElem?_eq_some_iff.mp h).1
 have hk:k=0∨k=1∨k=2∨k=3∨k=4∨k=5∨k=6∨k=7∨k=8∨k=9∨k=10:=by omega
 rcases hk with rfl | rfl | rfl | rfl | rfl | rfl | rfl | rfl | rfl | rfl | rfl
 ·cases h
  refine ⟨exm_of T.mb_HouseError T.cl_HouseError T.ty_HouseError T.mr_BadHouse_HouseError,⟨_,T.ex_BadHouse⟩,kit_val T.mv_BadHouse,fun j hj C' h'=>?_⟩
  have hj:j=0∨j=1∨j=2∨j=3∨j=4∨j=5∨j=6∨j=7∨j=8∨j=9∨j=10:=by omega
  rcases hj with rfl | rfl | rfl | rfl | rfl | rfl | rfl | rfl | rfl | rfl | rfl
  ·cases h';exact kit_self
  ·cases h';exact kit_sub (ne_mro T.ms_BadHouse T.mr_BadHouse_BadWord) T.cl_BadWord T.ty_BadWord T.mr_BadHouse_BadWord
  ·cases h';exact kit_sub (ne_mro T.ms_BadHouse T.mr_BadHouse_NoRoom) T.cl_NoRoom T.ty_NoRoom T.mr_BadHouse_NoRoom
  ·cases h';exact kit_sub (ne_mro T.ms_BadHouse T.mr_BadHouse_OtherDoors) T.cl_OtherDoors T.ty_OtherDoors T.mr_BadHouse_OtherDoors
  ·cases h';exact kit_sub (ne_mro T.ms_BadHouse T.mr_BadHouse_TooGreat) T.cl_TooGreat T.ty_TooGreat T.mr_BadHouse_TooGreat
  ·cases h';exact kit_sub (ne_mro T.ms_BadHouse T.mr_BadHouse_NoSuch) T.cl_NoSuch T.ty_NoSuch T.mr_BadHouse_NoSuch
  ·cases h';exact kit_sub (ne_mro T.ms_BadHouse T.mr_BadHouse_SaidOtherwise) T.cl_SaidOtherwise T.ty_SaidOtherwise T.mr_BadHouse_SaidOtherwise
  ·cases h';exact kit_sub (ne_mro T.ms_BadHouse T.mr_BadHouse_NotAsked) T.cl_NotAsked T.ty_NotAsked T.mr_BadHouse_NotAsked
  ·cases h';exact kit_sub (ne_mro T.ms_BadHouse T.mr_BadHouse_NotYet) T.cl_NotYet T.ty_NotYet T.mr_BadHouse_NotYet
  ·cases h';exact kit_sub (ne_mro T.ms_BadHouse T.mr_BadHouse_NotWrong) T.cl_NotWrong T.ty_NotWrong T.mr_BadHouse_NotWrong
  ·cases h';exact kit_sub (ne_mro T.ms_BadHouse T.mr_BadHouse_BadText) T.cl_BadText T.ty_BadText T.mr_BadHouse_BadText
 ·cases h
  refine ⟨exm_of T.mb_HouseError T.cl_HouseError T.ty_HouseError T.mr_BadWord_HouseError,⟨_,T.ex_BadWord⟩,kit_val T.mv_BadWord,fun j hj C' h'=>?_⟩
  have hj:j=0∨j=1∨j=2∨j=3∨j=4∨j=5∨j=6∨j=7∨j=8∨j=9∨j=10:=by omega
  rcases hj with rfl | rfl | rfl | rfl | rfl | rfl | rfl | rfl | rfl | rfl | rfl
  ·cases h';exact kit_sub (ne_mro T.ms_BadWord T.mr_BadWord_BadHouse) T.cl_BadHouse T.ty_BadHouse T.mr_BadWord_BadHouse
  ·cases h';exact kit_self
  ·cases h';exact kit_sub (ne_mro T.ms_BadWord T.mr_BadWord_NoRoom) T.cl_NoRoom T.ty_NoRoom T.mr_BadWord_NoRoom
  ·cases h';exact kit_sub (ne_mro T.ms_BadWord T.mr_BadWord_OtherDoors) T.cl_OtherDoors T.ty_OtherDoors T.mr_BadWord_OtherDoors
  ·cases h';exact kit_sub (ne_mro T.ms_BadWord T.mr_BadWord_TooGreat) T.cl_TooGreat T.ty_TooGreat T.mr_BadWord_TooGreat
  ·cases h';exact kit_sub (ne_mro T.ms_BadWord T.mr_BadWord_NoSuch) T.cl_NoSuch T.ty_NoSuch T.mr_BadWord_NoSuch
  ·cases h';exact kit_sub (ne_mro T.ms_BadWord T.mr_BadWord_SaidOtherwise) T.cl_SaidOtherwise T.ty_SaidOtherwise T.mr_BadWord_SaidOtherwise
  ·cases h';exact kit_sub (ne_mro T.ms_BadWord T.mr_BadWord_NotAsked) T.cl_NotAsked T.ty_NotAsked T.mr_BadWord_NotAsked
  ·cases h';exact kit_sub (ne_mro T.ms_BadWord T.mr_BadWord_NotYet) T.cl_NotYet T.ty_NotYet T.mr_BadWord_NotYet
  ·cases h';exact kit_sub (ne_mro T.ms_BadWord T.mr_BadWord_NotWrong) T.cl_NotWrong T.ty_NotWrong T.mr_BadWord_NotWrong
  ·cases h';exact kit_sub (ne_mro T.ms_BadWord T.mr_BadWord_BadText) T.cl_BadText T.ty_BadText T.mr_BadWord_BadText
 ·cases h
  refine ⟨exm_of T.mb_HouseError T.cl_HouseError T.ty_HouseError T.mr_NoRoom_HouseError,⟨_,T.ex_NoRoom⟩,kit_val T.mv_NoRoom,fun j hj C' h'=>?_⟩
  have hj:j=0∨j=1∨j=2∨j=3∨j=4∨j=5∨j=6∨j=7∨j=8∨j=9∨j=10:=by omega
  rcases hj with rfl | rfl | rfl | rfl | rfl | rfl | rfl | rfl | rfl | rfl | rfl
  ·cases h';exact kit_sub (ne_mro T.ms_NoRoom T.mr_NoRoom_BadHouse) T.cl_BadHouse T.ty_BadHouse T.mr_NoRoom_BadHouse
  ·cases h';exact kit_sub (ne_mro T.ms_NoRoom T.mr_NoRoom_BadWord) T.cl_BadWord T.ty_BadWord T.mr_NoRoom_BadWord
  ·cases h';exact kit_self
  ·cases h';exact kit_sub (ne_mro T.ms_NoRoom T.mr_NoRoom_OtherDoors) T.cl_OtherDoors T.ty_OtherDoors T.mr_NoRoom_OtherDoors
  ·cases h';exact kit_sub (ne_mro T.ms_NoRoom T.mr_NoRoom_TooGreat) T.cl_TooGreat T.ty_TooGreat T.mr_NoRoom_TooGreat
  ·cases h';exact kit_sub (ne_mro T.ms_NoRoom T.mr_NoRoom_NoSuch) T.cl_NoSuch T.ty_NoSuch T.mr_NoRoom_NoSuch
  ·cases h';exact kit_sub (ne_mro T.ms_NoRoom T.mr_NoRoom_SaidOtherwise) T.cl_SaidOtherwise T.ty_SaidOtherwise T.mr_NoRoom_SaidOtherwise
  ·cases h';exact kit_sub (ne_mro T.ms_NoRoom T.mr_NoRoom_NotAsked) T.cl_NotAsked T.ty_NotAsked T.mr_NoRoom_NotAsked
  ·cases h';exact kit_sub (ne_mro T.ms_NoRoom T.mr_NoRoom_NotYet) T.cl_NotYet T.ty_NotYet T.mr_NoRoom_NotYet
  ·cases h';exact kit_sub (ne_mro T.ms_NoRoom T.mr_NoRoom_NotWrong) T.cl_NotWrong T.ty_NotWrong T.mr_NoRoom_NotWrong
  ·cases h';exact kit_sub (ne_mro T.ms_NoRoom T.mr_NoRoom_BadText) T.cl_BadText T.ty_BadText T.mr_NoRoom_BadText
 ·cases h
  refine ⟨exm_of T.mb_HouseError T.cl_HouseError T.ty_HouseError T.mr_OtherDoors_HouseError,⟨_,T.ex_OtherDoors⟩,kit_val T.mv_OtherDoors,fun j hj C' h'=>?_⟩
  have hj:j=0∨j=1∨j=2∨j=3∨j=4∨j=5∨j=6∨j=7∨j=8∨j=9∨j=10:=by omega
  rcases hj with rfl | rfl | rfl | rfl | rfl | rfl | rfl | rfl | rfl | rfl | rfl
  ·cases h';exact kit_sub (ne_mro T.ms_OtherDoors T.mr_OtherDoors_BadHouse) T.cl_BadHouse T.ty_BadHouse T.mr_OtherDoors_BadHouse
  ·cases h';exact kit_sub (ne_mro T.ms_OtherDoors T.mr_OtherDoors_BadWord) T.cl_BadWord T.ty_BadWord T.mr_OtherDoors_BadWord
  ·cases h';exact kit_sub (ne_mro T.ms_OtherDoors T.mr_OtherDoors_NoRoom) T.cl_NoRoom T.ty_NoRoom T.mr_OtherDoors_NoRoom
  ·cases h';exact kit_self
  ·cases h';exact kit_sub (ne_mro T.ms_OtherDoors T.mr_OtherDoors_TooGreat) T.cl_TooGreat T.ty_TooGreat T.mr_OtherDoors_TooGreat
  ·cases h';exact kit_sub (ne_mro T.ms_OtherDoors T.mr_OtherDoors_NoSuch) T.cl_NoSuch T.ty_NoSuch T.mr_OtherDoors_NoSuch
  ·cases h';exact kit_sub (ne_mro T.ms_OtherDoors T.mr_OtherDoors_SaidOtherwise) T.cl_SaidOtherwise T.ty_SaidOtherwise T.mr_OtherDoors_SaidOtherwise
  ·cases h';exact kit_sub (ne_mro T.ms_OtherDoors T.mr_OtherDoors_NotAsked) T.cl_NotAsked T.ty_NotAsked T.mr_OtherDoors_NotAsked
  ·cases h';exact kit_sub (ne_mro T.ms_OtherDoors T.mr_OtherDoors_NotYet) T.cl_NotYet T.ty_NotYet T.mr_OtherDoors_NotYet
  ·cases h';exact kit_sub (ne_mro T.ms_OtherDoors T.mr_OtherDoors_NotWrong) T.cl_NotWrong T.ty_NotWrong T.mr_OtherDoors_NotWrong
  ·cases h';exact kit_sub (ne_mro T.ms_OtherDoors T.mr_OtherDoors_BadText) T.cl_BadText T.ty_BadText T.mr_OtherDoors_BadText
 ·cases h
  refine ⟨exm_of T.mb_HouseError T.cl_HouseError T.ty_HouseError T.mr_TooGreat_HouseError,⟨_,T.ex_TooGreat⟩,kit_val T.mv_TooGreat,fun j hj C' h'=>?_⟩
  have hj:j=0∨j=1∨j=2∨j=3∨j=4∨j=5∨j=6∨j=7∨j=8∨j=9∨j=10:=by omega
  rcases hj with rfl | rfl | rfl | rfl | rfl | rfl | rfl | rfl | rfl | rfl | rfl
  ·cases h';exact kit_sub (ne_mro T.ms_TooGreat T.mr_TooGreat_BadHouse) T.cl_BadHouse T.ty_BadHouse T.mr_TooGreat_BadHouse
  ·cases h';exact kit_sub (ne_mro T.ms_TooGreat T.mr_TooGreat_BadWord) T.cl_BadWord T.ty_BadWord T.mr_TooGreat_BadWord
  ·cases h';exact kit_sub (ne_mro T.ms_TooGreat T.mr_TooGreat_NoRoom) T.cl_NoRoom T.ty_NoRoom T.mr_TooGreat_NoRoom
  ·cases h';exact kit_sub (ne_mro T.ms_TooGreat T.mr_TooGreat_OtherDoors) T.cl_OtherDoors T.ty_OtherDoors T.mr_TooGreat_OtherDoors
  ·cases h';exact kit_self
  ·cases h';exact kit_sub (ne_mro T.ms_TooGreat T.mr_TooGreat_NoSuch) T.cl_NoSuch T.ty_NoSuch T.mr_TooGreat_NoSuch
  ·cases h';exact kit_sub (ne_mro T.ms_TooGreat T.mr_TooGreat_SaidOtherwise) T.cl_SaidOtherwise T.ty_SaidOtherwise T.mr_TooGreat_SaidOtherwise
  ·cases h';exact kit_sub (ne_mro T.ms_TooGreat T.mr_TooGreat_NotAsked) T.cl_NotAsked T.ty_NotAsked T.mr_TooGreat_NotAsked
  ·cases h';exact kit_sub (ne_mro T.ms_TooGreat T.mr_TooGreat_NotYet) T.cl_NotYet T.ty_NotYet T.mr_TooGreat_NotYet
  ·cases h';exact kit_sub (ne_mro T.ms_TooGreat T.mr_TooGreat_NotWrong) T.cl_NotWrong T.ty_NotWrong T.mr_TooGreat_NotWrong
  ·cases h';exact kit_sub (ne_mro T.ms_TooGreat T.mr_TooGreat_BadText) T.cl_BadText T.ty_BadText T.mr_TooGreat_BadText
 ·cases h
  refine ⟨exm_of T.mb_HouseError T.cl_HouseError T.ty_HouseError T.mr_NoSuch_HouseError,⟨_,T.ex_NoSuch⟩,kit_val T.mv_NoSuch,fun j hj C' h'=>?_⟩
  have hj:j=0∨j=1∨j=2∨j=3∨j=4∨j=5∨j=6∨j=7∨j=8∨j=9∨j=10:=by omega
  rcases hj with rfl | rfl | rfl | rfl | rfl | rfl | rfl | rfl | rfl | rfl | rfl
  ·cases h';exact kit_sub (ne_mro T.ms_NoSuch T.mr_NoSuch_BadHouse) T.cl_BadHouse T.ty_BadHouse T.mr_NoSuch_BadHouse
  ·cases h';exact kit_sub (ne_mro T.ms_NoSuch T.mr_NoSuch_BadWord) T.cl_BadWord T.ty_BadWord T.mr_NoSuch_BadWord
  ·cases h';exact kit_sub (ne_mro T.ms_NoSuch T.mr_NoSuch_NoRoom) T.cl_NoRoom T.ty_NoRoom T.mr_NoSuch_NoRoom
  ·cases h';exact kit_sub (ne_mro T.ms_NoSuch T.mr_NoSuch_OtherDoors) T.cl_OtherDoors T.ty_OtherDoors T.mr_NoSuch_OtherDoors
  ·cases h';exact kit_sub (ne_mro T.ms_NoSuch T.mr_NoSuch_TooGreat) T.cl_TooGreat T.ty_TooGreat T.mr_NoSuch_TooGreat
  ·cases h';exact kit_self
  ·cases h';exact kit_sub (ne_mro T.ms_NoSuch T.mr_NoSuch_SaidOtherwise) T.cl_SaidOtherwise T.ty_SaidOtherwise T.mr_NoSuch_SaidOtherwise
  ·cases h';exact kit_sub (ne_mro T.ms_NoSuch T.mr_NoSuch_NotAsked) T.cl_NotAsked T.ty_NotAsked T.mr_NoSuch_NotAsked
  ·cases h';exact kit_sub (ne_mro T.ms_NoSuch T.mr_NoSuch_NotYet) T.cl_NotYet T.ty_NotYet T.mr_NoSuch_NotYet
  ·cases h';exact kit_sub (ne_mro T.ms_NoSuch T.mr_NoSuch_NotWrong) T.cl_NotWrong T.ty_NotWrong T.mr_NoSuch_NotWrong
  ·cases h';exact kit_sub (ne_mro T.ms_NoSuch T.mr_NoSuch_BadText) T.cl_BadText T.ty_BadText T.mr_NoSuch_BadText
 ·cases h
  refine ⟨exm_of T.mb_HouseError T.cl_HouseError T.ty_HouseError T.mr_SaidOtherwise_HouseError,⟨_,T.ex_SaidOtherwise⟩,kit_val T.mv_SaidOtherwise,fun j hj C' h'=>?_⟩
  have hj:j=0∨j=1∨j=2∨j=3∨j=4∨j=5∨j=6∨j=7∨j=8∨j=9∨j=10:=by omega
  rcases hj with rfl | rfl | rfl | rfl | rfl | rfl | rfl | rfl | rfl | rfl | rfl
  ·cases h';exact kit_sub (ne_mro T.ms_SaidOtherwise T.mr_SaidOtherwise_BadHouse) T.cl_BadHouse T.ty_BadHouse T.mr_SaidOtherwise_BadHouse
  ·cases h';exact kit_sub (ne_mro T.ms_SaidOtherwise T.mr_SaidOtherwise_BadWord) T.cl_BadWord T.ty_BadWord T.mr_SaidOtherwise_BadWord
  ·cases h';exact kit_sub (ne_mro T.ms_SaidOtherwise T.mr_SaidOtherwise_NoRoom) T.cl_NoRoom T.ty_NoRoom T.mr_SaidOtherwise_NoRoom
  ·cases h';exact kit_sub (ne_mro T.ms_SaidOtherwise T.mr_SaidOtherwise_OtherDoors) T.cl_OtherDoors T.ty_OtherDoors T.mr_SaidOtherwise_OtherDoors
  ·cases h';exact kit_sub (ne_mro T.ms_SaidOtherwise T.mr_SaidOtherwise_TooGreat) T.cl_TooGreat T.ty_TooGreat T.mr_SaidOtherwise_TooGreat
  ·cases h';exact kit_sub (ne_mro T.ms_SaidOtherwise T.mr_SaidOtherwise_NoSuch) T.cl_NoSuch T.ty_NoSuch T.mr_SaidOtherwise_NoSuch
  ·cases h';exact kit_self
  ·cases h';exact kit_sub (ne_mro T.ms_SaidOtherwise T.mr_SaidOtherwise_NotAsked) T.cl_NotAsked T.ty_NotAsked T.mr_SaidOtherwise_NotAsked
  ·cases h';exact kit_sub (ne_mro T.ms_SaidOtherwise T.mr_SaidOtherwise_NotYet) T.cl_NotYet T.ty_NotYet T.mr_SaidOtherwise_NotYet
  ·cases h';exact kit_sub (ne_mro T.ms_SaidOtherwise T.mr_SaidOtherwise_NotWrong) T.cl_NotWrong T.ty_NotWrong T.mr_SaidOtherwise_NotWrong
  ·cases h';exact kit_sub (ne_mro T.ms_SaidOtherwise T.mr_SaidOtherwise_BadText) T.cl_BadText T.ty_BadText T.mr_SaidOtherwise_BadText
 ·cases h
  refine ⟨exm_of T.mb_HouseError T.cl_HouseError T.ty_HouseError T.mr_NotAsked_HouseError,⟨_,T.ex_NotAsked⟩,kit_val T.mv_NotAsked,fun j hj C' h'=>?_⟩
  have hj:j=0∨j=1∨j=2∨j=3∨j=4∨j=5∨j=6∨j=7∨j=8∨j=9∨j=10:=by omega
  rcases hj with rfl | rfl | rfl | rfl | rfl | rfl | rfl | rfl | rfl | rfl | rfl
  ·cases h';exact kit_sub (ne_mro T.ms_NotAsked T.mr_NotAsked_BadHouse) T.cl_BadHouse T.ty_BadHouse T.mr_NotAsked_BadHouse
  ·cases h';exact kit_sub (ne_mro T.ms_NotAsked T.mr_NotAsked_BadWord) T.cl_BadWord T.ty_BadWord T.mr_NotAsked_BadWord
  ·cases h';exact kit_sub (ne_mro T.ms_NotAsked T.mr_NotAsked_NoRoom) T.cl_NoRoom T.ty_NoRoom T.mr_NotAsked_NoRoom
  ·cases h';exact kit_sub (ne_mro T.ms_NotAsked T.mr_NotAsked_OtherDoors) T.cl_OtherDoors T.ty_OtherDoors T.mr_NotAsked_OtherDoors
  ·cases h';exact kit_sub (ne_mro T.ms_NotAsked T.mr_NotAsked_TooGreat) T.cl_TooGreat T.ty_TooGreat T.mr_NotAsked_TooGreat
  ·cases h';exact kit_sub (ne_mro T.ms_NotAsked T.mr_NotAsked_NoSuch) T.cl_NoSuch T.ty_NoSuch T.mr_NotAsked_NoSuch
  ·cases h';exact kit_sub (ne_mro T.ms_NotAsked T.mr_NotAsked_SaidOtherwise) T.cl_SaidOtherwise T.ty_SaidOtherwise T.mr_NotAsked_SaidOtherwise
  ·cases h';exact kit_self
  ·cases h';exact kit_sub (ne_mro T.ms_NotAsked T.mr_NotAsked_NotYet) T.cl_NotYet T.ty_NotYet T.mr_NotAsked_NotYet
  ·cases h';exact kit_sub (ne_mro T.ms_NotAsked T.mr_NotAsked_NotWrong) T.cl_NotWrong T.ty_NotWrong T.mr_NotAsked_NotWrong
  ·cases h';exact kit_sub (ne_mro T.ms_NotAsked T.mr_NotAsked_BadText) T.cl_BadText T.ty_BadText T.mr_NotAsked_BadText
 ·cases h
  refine ⟨exm_of T.mb_HouseError T.cl_HouseError T.ty_HouseError T.mr_NotYet_HouseError,⟨_,T.ex_NotYet⟩,kit_val T.mv_NotYet,fun j hj C' h'=>?_⟩
  have hj:j=0∨j=1∨j=2∨j=3∨j=4∨j=5∨j=6∨j=7∨j=8∨j=9∨j=10:=by omega
  rcases hj with rfl | rfl | rfl | rfl | rfl | rfl | rfl | rfl | rfl | rfl | rfl
  ·cases h';exact kit_sub (ne_mro T.ms_NotYet T.mr_NotYet_BadHouse) T.cl_BadHouse T.ty_BadHouse T.mr_NotYet_BadHouse
  ·cases h';exact kit_sub (ne_mro T.ms_NotYet T.mr_NotYet_BadWord) T.cl_BadWord T.ty_BadWord T.mr_NotYet_BadWord
  ·cases h';exact kit_sub (ne_mro T.ms_NotYet T.mr_NotYet_NoRoom) T.cl_NoRoom T.ty_NoRoom T.mr_NotYet_NoRoom
  ·cases h';exact kit_sub (ne_mro T.ms_NotYet T.mr_NotYet_OtherDoors) T.cl_OtherDoors T.ty_OtherDoors T.mr_NotYet_OtherDoors
  ·cases h';exact kit_sub (ne_mro T.ms_NotYet T.mr_NotYet_TooGreat) T.cl_TooGreat T.ty_TooGreat T.mr_NotYet_TooGreat
  ·cases h';exact kit_sub (ne_mro T.ms_NotYet T.mr_NotYet_NoSuch) T.cl_NoSuch T.ty_NoSuch T.mr_NotYet_NoSuch
  ·cases h';exact kit_sub (ne_mro T.ms_NotYet T.mr_NotYet_SaidOtherwise) T.cl_SaidOtherwise T.ty_SaidOtherwise T.mr_NotYet_SaidOtherwise
  ·cases h';exact kit_sub (ne_mro T.ms_NotYet T.mr_NotYet_NotAsked) T.cl_NotAsked T.ty_NotAsked T.mr_NotYet_NotAsked
  ·cases h';exact kit_self
  ·cases h';exact kit_sub (ne_mro T.ms_NotYet T.mr_NotYet_NotWrong) T.cl_NotWrong T.ty_NotWrong T.mr_NotYet_NotWrong
  ·cases h';exact kit_sub (ne_mro T.ms_NotYet T.mr_NotYet_BadText) T.cl_BadText T.ty_BadText T.mr_NotYet_BadText
 ·cases h
  refine ⟨exm_of T.mb_HouseError T.cl_HouseError T.ty_HouseError T.mr_NotWrong_HouseError,⟨_,T.ex_NotWrong⟩,kit_val T.mv_NotWrong,fun j hj C' h'=>?_⟩
  have hj:j=0∨j=1∨j=2∨j=3∨j=4∨j=5∨j=6∨j=7∨j=8∨j=9∨j=10:=by omega
  rcases hj with rfl | rfl | rfl | rfl | rfl | rfl | rfl | rfl | rfl | rfl | rfl
  ·cases h';exact kit_sub (ne_mro T.ms_NotWrong T.mr_NotWrong_BadHouse) T.cl_BadHouse T.ty_BadHouse T.mr_NotWrong_BadHouse
  ·cases h';exact kit_sub (ne_mro T.ms_NotWrong T.mr_NotWrong_BadWord) T.cl_BadWord T.ty_BadWord T.mr_NotWrong_BadWord
  ·cases h';exact kit_sub (ne_mro T.ms_NotWrong T.mr_NotWrong_NoRoom) T.cl_NoRoom T.ty_NoRoom T.mr_NotWrong_NoRoom
  ·cases h';exact kit_sub (ne_mro T.ms_NotWrong T.mr_NotWrong_OtherDoors) T.cl_OtherDoors T.ty_OtherDoors T.mr_NotWrong_OtherDoors
  ·cases h';exact kit_sub (ne_mro T.ms_NotWrong T.mr_NotWrong_TooGreat) T.cl_TooGreat T.ty_TooGreat T.mr_NotWrong_TooGreat
  ·cases h';exact kit_sub (ne_mro T.ms_NotWrong T.mr_NotWrong_NoSuch) T.cl_NoSuch T.ty_NoSuch T.mr_NotWrong_NoSuch
  ·cases h';exact kit_sub (ne_mro T.ms_NotWrong T.mr_NotWrong_SaidOtherwise) T.cl_SaidOtherwise T.ty_SaidOtherwise T.mr_NotWrong_SaidOtherwise
  ·cases h';exact kit_sub (ne_mro T.ms_NotWrong T.mr_NotWrong_NotAsked) T.cl_NotAsked T.ty_NotAsked T.mr_NotWrong_NotAsked
  ·cases h';exact kit_sub (ne_mro T.ms_NotWrong T.mr_NotWrong_NotYet) T.cl_NotYet T.ty_NotYet T.mr_NotWrong_NotYet
  ·cases h';exact kit_self
  ·cases h';exact kit_sub (ne_mro T.ms_NotWrong T.mr_NotWrong_BadText) T.cl_BadText T.ty_BadText T.mr_NotWrong_BadText
 ·cases h
  refine ⟨exm_of T.mb_HouseError T.cl_HouseError T.ty_HouseError T.mr_BadText_HouseError,⟨_,T.ex_BadText⟩,kit_val T.mv_BadText,fun j hj C' h'=>?_⟩
  have hj:j=0∨j=1∨j=2∨j=3∨j=4∨j=5∨j=6∨j=7∨j=8∨j=9∨j=10:=by omega
  rcases hj with rfl | rfl | rfl | rfl | rfl | rfl | rfl | rfl | rfl | rfl | rfl
  ·cases h';exact kit_sub (ne_mro T.ms_BadText T.mr_BadText_BadHouse) T.cl_BadHouse T.ty_BadHouse T.mr_BadText_BadHouse
  ·cases h';exact kit_sub (ne_mro T.ms_BadText T.mr_BadText_BadWord) T.cl_BadWord T.ty_BadWord T.mr_BadText_BadWord
  ·cases h';exact kit_sub (ne_mro T.ms_BadText T.mr_BadText_NoRoom) T.cl_NoRoom T.ty_NoRoom T.mr_BadText_NoRoom
  ·cases h';exact kit_sub (ne_mro T.ms_BadText T.mr_BadText_OtherDoors) T.cl_OtherDoors T.ty_OtherDoors T.mr_BadText_OtherDoors
  ·cases h';exact kit_sub (ne_mro T.ms_BadText T.mr_BadText_TooGreat) T.cl_TooGreat T.ty_TooGreat T.mr_BadText_TooGreat
  ·cases h';exact kit_sub (ne_mro T.ms_BadText T.mr_BadText_NoSuch) T.cl_NoSuch T.ty_NoSuch T.mr_BadText_NoSuch
  ·cases h';exact kit_sub (ne_mro T.ms_BadText T.mr_BadText_SaidOtherwise) T.cl_SaidOtherwise T.ty_SaidOtherwise T.mr_BadText_SaidOtherwise
  ·cases h';exact kit_sub (ne_mro T.ms_BadText T.mr_BadText_NotAsked) T.cl_NotAsked T.ty_NotAsked T.mr_BadText_NotAsked
  ·cases h';exact kit_sub (ne_mro T.ms_BadText T.mr_BadText_NotYet) T.cl_NotYet T.ty_NotYet T.mr_BadText_NotYet
  ·cases h';exact kit_sub (ne_mro T.ms_BadText T.mr_BadText_NotWrong) T.cl_NotWrong T.ty_NotWrong T.mr_BadText_NotWrong
  ·cases h';exact kit_self
set_option maxHeartbeats 0 in
theorem ok_law (T:Txt K mg t):FnOk P w K mg base CX0 10 t.f_law t.fd_law ["script"] (sp_law K):=by
 refine T.F_law.ok sc_law (fun vs H Q E h=>?_) (fun cdv A outer s H vs Q E hr h=>?_)
 ·obtain ⟨a,ns,rfl,_⟩:=h
  rfl
 ·obtain ⟨a,ns,rfl,hS,hlen,q⟩:=h
  refine ⟨_,pss_cons (ps_set (i:=1) sc_law.nd rfl (Or.inl rfl) (pe_op op_add (pe_int) (pe_op op_mod (pe_call (ok_l_cell_at T) (hr.mono (by decide)) rfl T.mg_l_cell_at T.F_l_cell_at.kp (b_l_cell_at T) .nil pass0 (pa_cons (pv 0) (pa_cons (pe_int) (pa_nil)))) (pe_int))))
 (pss_cons (ps_set (i:=2) sc_law.nd rfl (Or.inl rfl) (pe_op op_mod (pe_call (ok_l_cell_at T) (hr.mono (by decide)) rfl T.mg_l_cell_at T.F_l_cell_at.kp (b_l_cell_at T) .nil pass0 (pa_cons (pv 0) (pa_cons (pe_int) (pa_nil)))) (pe_int)))
 (pss_cons (ps_for PassesOwn.never rfl (pi_range1 rfl T.m_range (pa_cons (pe_int) (pa_nil))) (pg_name (i:=3) sc_law.nd rfl (Or.inr rfl))
 (pss_cons (ps_set (i:=4) sc_law.nd rfl (Or.inl rfl) (pe_lst (pa_nil)))
 (pss_cons (ps_tryM (i:=5) rfl rfl sc_law.nd rfl rfl (fun _ _ _ _ xp=>pss_exprA (pe_callA (ok_l_do T) (hr.mono (by decide)) rfl T.mg_l_do T.F_l_do.kp (b_l_do T) .nil xp (pa_cons (pv 3) (pa_cons (pv 1) (pa_cons (pv 2) (pa_nil))))))
 (PHs.cons rfl T.mg_HouseError (by decide) (fun _ _=>pss_one (ps_set (i:=4) sc_law.nd rfl (Or.inl rfl) (pe_callH (ok_l_marks T) (roomH hr (by decide)) rfl T.mg_l_marks T.F_l_marks.kp (b_l_marks T) .nil pass0 (pa_cons (pv 5) (pa_nil)))))
 (PHs.nil)))
 (pss_one (ps_if (pt_cmpR (op_neDK K hr.units) (pv 4) (pe_comp (N:=["script","doors","far","what","marks","e"]) (sc0:=(defScope s_law)) (N':=["k","what"]) (caps:=[none,some 3]) (by exact ⟨rfl,by decide +kernel,by decide +kernel,by decide +kernel,rfl,rfl,by decide +kernel⟩) rfl (pi_range1 rfl T.m_range (pa_cons (pe_int) (pa_nil))) (fun _ _ _ _ _ _=>pg_name (i:=0) (show List.Nodup (["k","what"]:List Str) from by decide +kernel) rfl (Or.inl rfl)) (fun _ _ _ _ _ _=>pe_or (pe_cmpR op_eq (pv 0) (pv 1) (nomark _)) (pe_one (pe_cmpR op_eq (pv 0) (pe_int) (nomark _))))) (nomark _))
 (pss_one (ps_ret (pe_bl)))
 (pss_nil))))))
 (pss_one (ps_ret (pe_bl))))),?_⟩
  walk_at "w";refine ⟨a,ns,0,rfl,hS,by decide,?_⟩
  walk_at "w";obtain ⟨d,hd⟩:∃ d,d=1+cellv ns 0 % 5:=⟨_,rfl⟩
  have hd1:1≤d:=by omega
  have hd5:d≤5:=by omega
  rw [← hd]
  clear hd
  refine ⟨a,ns,1,rfl,hS,by decide,?_⟩
  walk_at "w";obtain ⟨fr,hf⟩:∃ fr,fr=cellv ns 1 % 500:=⟨_,rfl⟩
  have hf0:0≤fr:=by omega
  have hf5:fr < 500:=by omega
  rw [← hf]
  clear hf
  refine ⟨_,rfl,by decide,by decide,?_⟩
  refine for_range (fun k σ H'=>∃ k3 k4 k5,σ=[some (.ref a),some (.int d),some (.int fr),k3,k4,k5]) ⟨_,_,_,rfl⟩ (fun k σ H1 hk pp=>?_) (fun σ H1 pp=>?_)
  ·obtain ⟨k3,k4,k5,rfl⟩:=pp
   have hk:k < 11:=by omega
   have e0:(0:Int)+(k:Int)=k:=by omega
   rw [e0]
   walk_at "w";refine ⟨Nat.zero_le _,fun m0 hm0=>?_⟩
   walk_at "w";refine r_tryM ?_
   walk_at "w";refine ⟨k,d,fr,rfl,hk,hd1,hd5,hf0,hf5,fun C H2 hC=>⟨C,rfl,fun ea hea=>?_⟩⟩
   obtain ⟨h1,⟨x,h2⟩,h3,h4⟩:=exF T k C hC
   refine .inl ⟨h1,?_⟩
   walk_at "w";refine ⟨ea,C,x,k,rfl,upd_same,h2,h3,hk,h4,fun H3 l s3 hl hm=>?_⟩
   clear s3 hl
   walk_at "w";refine ⟨_,rfl,by decide,by decide,?_⟩
   refine comp_range (fun acc j ys H'=>ys=((List.range j).map fun i=>decide (i=k) || decide (i=11)).map V.bl∧Same H3 H'∧H' acc=some (.lst ys)) (fun acc h2=>⟨rfl,Same.upd_new h2,upd_same⟩) (fun acc j ys H' h2 hj p=>?_) (fun acc ys H' h2 p=>?_)
   ·obtain ⟨rfl,s4,hac⟩:=p
    have e1:(0:Int)+(j:Int)=j:=by omega
    rw [e1]
    have hj:j < 12:=by omega
    walk_at "w";refine ⟨Wk.set rfl,?_⟩
    walk_at "w";refine r_eq rfl ?_
    have ek:decide (V.int (j:Int)=V.int (k:Int))=decide (j=k):=by
     by_cases z:j=k
     ·subst z;simp
     ·rw [decide_eq_false z,decide_eq_false]
      intro y;injection y with y;omega
    have eK:decide (V.int (j:Int)=V.int 11)=decide (j=11):=by
     by_cases z:j=11
     ·subst z;decide
     ·rw [decide_eq_false z,decide_eq_false]
      intro y;injection y with y;omega
    have fin:∀ v:Bool,v=(decide (j=k) || decide (j=11))→H' acc=some (.lst (((List.range j).map fun i=>decide (i=k) || decide (i=11)).map V.bl))∧(((List.range j).map fun i=>decide (i=k) || decide (i=11)).map V.bl).length < sizeLine∧((List.range j).map fun i=>decide (i=k) || decide (i=11)).map V.bl++[V.bl v]=((List.range (j+1)).map fun i=>decide (i=k) || decide (i=11)).map V.bl∧Same H3 (upd H' acc (.lst (((List.range j).map fun i=>decide (i=k) || decide (i=11)).map V.bl++[V.bl v])))∧(upd H' acc (.lst (((List.range j).map fun i=>decide (i=k) || decide (i=11)).map V.bl++[V.bl v]))) acc=some (.lst (((List.range j).map fun i=>decide (i=k) || decide (i=11)).map V.bl++[V.bl v])):=fun v hv=>by
     refine ⟨hac,small1000 (by simp;omega),?_,fun b o e=>?_,upd_same⟩
     ·rw [List.range_succ,hv];simp
     ·rw [upd_ne (ne_of_none e h2)];exact s4 b o e
    walk_at "w";refine r_ite (fun hc=>?_) (fun hc=>?_)
    ·rw [ek] at hc
     exact fin true (by rw [hc];rfl)
    ·rw [ek] at hc
     walk_at "w";refine r_eq rfl ?_
     exact fin _ (by rw [hc,eK];rfl)
   obtain ⟨rfl,s4,hac⟩:=p
   refine ⟨_,_,.lst (SqL.of (s4 _ _ hm)) (dts_bl K _ (marksOf k)),.lst (SqL.of hac) (dts_bl K _ (marksOf k)),shaped_bl _,shaped_bl _,?_⟩
   rw [eqv_bls]
   walk_at "w";refine r_iteN rfl ?_
   walk_at "w";exact ⟨_,_,_,rfl⟩
  ·obtain ⟨k3,k4,k5,rfl⟩:=pp
   walk_at "w";exact q H1
end
theorem txt_mk {K:PySem.W.Frag} {h:Heap} {mg:Str→Option Value} (X:K.In h) (G:h.Ns mainGlobals mg) {tk_MOST_DOORS:Tok} {tk_MOST_ROOMS:Tok} {tk_HEADING:Tok} {C_House:Addr} {C_Book:Addr} {C_Learner:Addr} {C_HouseError:Addr} {C_BadHouse:Addr} {C_BadWord:Addr} {C_NoRoom:Addr} {C_OtherDoors:Addr} {C_TooGreat:Addr} {C_NoSuch:Addr} {C_SaidOtherwise:Addr} {C_NotAsked:Addr} {C_NotYet:Addr} {C_NotWrong:Addr} {C_BadText:Addr} {f0:Addr} {oc0 kV0 dc0 pm0 cd0 ct0:Value} {od0 an0:Option Addr} {sl0:Array (Option Value)} {f1:Addr} {oc1 kV1 dc1 pm1 cd1 ct1:Value} {od1 an1:Option Addr} {sl1:Array (Option Value)} {f2:Addr} {oc2 kV2 dc2 pm2 cd2 ct2:Value} {od2 an2:Option Addr} {sl2:Array (Option Value)} {f3:Addr} {oc3 kV3 dc3 pm3 cd3 ct3:Value} {od3 an3:Option Addr} {sl3:Array (Option Value)} {f4:Addr} {oc4 kV4 dc4 pm4 cd4 ct4:Value} {od4 an4:Option Addr} {sl4:Array (Option Value)} {f5:Addr} {oc5 kV5 dc5 pm5 cd5 ct5:Value} {od5 an5:Option Addr} {sl5:Array (Option Value)} {f6:Addr} {oc6 kV6 dc6 pm6 cd6 ct6:Value} {od6 an6:Option Addr} {sl6:Array (Option Value)} {f7:Addr} {oc7 kV7 dc7 pm7 cd7 ct7:Value} {od7 an7:Option Addr} {sl7:Array (Option Value)} {f8:Addr} {oc8 kV8 dc8 pm8 cd8 ct8:Value} {od8 an8:Option Addr} {sl8:Array (Option Value)} {f9:Addr} {oc9 kV9 dc9 pm9 cd9 ct9:Value} {od9 an9:Option Addr} {sl9:Array (Option Value)} {f10:Addr} {oc10 kV10 dc10 pm10 cd10 ct10:Value} {od10 an10:Option Addr} {sl10:Array (Option Value)} {f11:Addr} {oc11 kV11 dc11 pm11 cd11 ct11:Value} {od11 an11:Option Addr} {sl11:Array (Option Value)} {f12:Addr} {oc12 kV12 dc12 pm12 cd12 ct12:Value} {od12 an12:Option Addr} {sl12:Array (Option Value)} {f13:Addr} {oc13 kV13 dc13 pm13 cd13 ct13:Value} {od13 an13:Option Addr} {sl13:Array (Option Value)} {f14:Addr} {oc14 kV14 dc14 pm14 cd14 ct14:Value} {od14 an14:Option Addr} {sl14:Array (Option Value)} {f15:Addr} {oc15 kV15 dc15 pm15 cd15 ct15:Value} {od15 an15:Option Addr} {sl15:Array (Option Value)} {f16:Addr} {oc16 kV16 dc16 pm16 cd16 ct16:Value} {od16 an16:Option Addr} {sl16:Array (Option Value)} {f17:Addr} {oc17 kV17 dc17 pm17 cd17 ct17:Value} {od17 an17:Option Addr} {sl17:Array (Option Value)} {f18:Addr} {oc18 kV18 dc18 pm18 cd18 ct18:Value} {od18 an18:Option Addr} {sl18:Array (Option Value)} {f19:Addr} {oc19 kV19 dc19 pm19 cd19 ct19:Value} {od19 an19:Option Addr} {sl19:Array (Option Value)} {f20:Addr} {oc20 kV20 dc20 pm20 cd20 ct20:Value} {od20 an20:Option Addr} {sl20:Array (Option Value)} {f21:Addr} {oc21 kV21 dc21 pm21 cd21 ct21:Value} {od21 an21:Option Addr} {sl21:Array (Option Value)} {f22:Addr} {oc22 kV22 dc22 pm22 cd22 ct22:Value} {od22 an22:Option Addr} {sl22:Array (Option Value)} {f23:Addr} {oc23 kV23 dc23 pm23 cd23 ct23:Value} {od23 an23:Option Addr} {sl23:Array (Option Value)} {f24:Addr} {oc24 kV24 dc24 pm24 cd24 ct24:Value} {od24 an24:Option Addr} {sl24:Array (Option Value)} {f25:Addr} {oc25 kV25 dc25 pm25 cd25 ct25:Value} {od25 an25:Option Addr} {sl25:Array (Option Value)} {f26:Addr} {oc26 kV26 dc26 pm26 cd26 ct26:Value} {od26 an26:Option Addr} {sl26:Array (Option Value)} {f27:Addr} {oc27 kV27 dc27 pm27 cd27 ct27:Value} {od27 an27:Option Addr} {sl27:Array (Option Value)} {f28:Addr} {oc28 kV28 dc28 pm28 cd28 ct28:Value} {od28 an28:Option Addr} {sl28:Array (Option Value)} {f29:Addr} {oc29 kV29 dc29 pm29 cd29 ct29:Value} {od29 an29:Option Addr} {sl29:Array (Option Value)} {f30:Addr} {oc30 kV30 dc30 pm30 cd30 ct30:Value} {od30 an30:Option Addr} {sl30:Array (Option Value)} {f31:Addr} {oc31 kV31 dc31 pm31 cd31 ct31:Value} {od31 an31:Option Addr} {sl31:Array (Option Value)} {f32:Addr} {oc32 kV32 dc32 pm32 cd32 ct32:Value} {od32 an32:Option Addr} {sl32:Array (Option Value)} {f33:Addr} {oc33 kV33 dc33 pm33 cd33 ct33:Value} {od33 an33:Option Addr} {sl33:Array (Option Value)} {f34:Addr} {oc34 kV34 dc34 pm34 cd34 ct34:Value} {od34 an34:Option Addr} {sl34:Array (Option Value)} {f35:Addr} {oc35 kV35 dc35 pm35 cd35 ct35:Value} {od35 an35:Option Addr} {sl35:Array (Option Value)} {f36:Addr} {oc36 kV36 dc36 pm36 cd36 ct36:Value} {od36 an36:Option Addr} {sl36:Array (Option Value)} {f37:Addr} {oc37 kV37 dc37 pm37 cd37 ct37:Value} {od37 an37:Option Addr} {sl37:Array (Option Value)} {f38:Addr} {oc38 kV38 dc38 pm38 cd38 ct38:Value} {od38 an38:Option Addr} {sl38:Array (Option Value)} {f39:Addr} {oc39 kV39 dc39 pm39 cd39 ct39:Value} {od39 an39:Option Addr} {sl39:Array (Option Value)} {f40:Addr} {oc40 kV40 dc40 pm40 cd40 ct40:Value} {od40 an40:Option Addr} {sl40:Array (Option Value)} {f41:Addr} {oc41 kV41 dc41 pm41 cd41 ct41:Value} {od41 an41:Option Addr} {sl41:Array (Option Value)} {f42:Addr} {oc42 kV42 dc42 pm42 cd42 ct42:Value} {od42 an42:Option Addr} {sl42:Array (Option Value)} {f43:Addr} {oc43 kV43 dc43 pm43 cd43 ct43:Value} {od43 an43:Option Addr} {sl43:Array (Option Value)} {f44:Addr} {oc44 kV44 dc44 pm44 cd44 ct44:Value} {od44 an44:Option Addr} {sl44:Array (Option Value)} {f45:Addr} {oc45 kV45 dc45 pm45 cd45 ct45:Value} {od45 an45:Option Addr} {sl45:Array (Option Value)} {f46:Addr} {oc46 kV46 dc46 pm46 cd46 ct46:Value} {od46 an46:Option Addr} {sl46:Array (Option Value)} {f47:Addr} {oc47 kV47 dc47 pm47 cd47 ct47:Value} {od47 an47:Option Addr} {sl47:Array (Option Value)} {f48:Addr} {oc48 kV48 dc48 pm48 cd48 ct48:Value} {od48 an48:Option Addr} {sl48:Array (Option Value)}
    (z_len:PySem.W.nsIn K mainGlobals "len"=some none)
    (z_range:PySem.W.nsIn K mainGlobals "range"=some none)
    (z_isinstance:PySem.W.nsIn K mainGlobals "isinstance"=some none)
    (z_list:PySem.W.nsIn K mainGlobals "list"=some none)
    (z_enumerate:PySem.W.nsIn K mainGlobals "enumerate"=some none)
    (z_tuple:PySem.W.nsIn K mainGlobals "tuple"=some none)
    (z_str:PySem.W.nsIn K mainGlobals "str"=some none)
    (z_ValueError:PySem.W.nsIn K mainGlobals "ValueError"=some none)
    (z_sum:PySem.W.nsIn K mainGlobals "sum"=some none)
    (z_zip:PySem.W.nsIn K mainGlobals "zip"=some none)
    (c_MOST_DOORS:PySem.W.nsIn K mainGlobals "MOST_DOORS"=some (some (.int 6 tk_MOST_DOORS)))
    (c_MOST_ROOMS:PySem.W.nsIn K mainGlobals "MOST_ROOMS"=some (some (.int 400 tk_MOST_ROOMS)))
    (c_HEADING:PySem.W.nsIn K mainGlobals "HEADING"=some (some (.str "doors " tk_HEADING)))
    (a_House:PySem.W.nsIn K mainGlobals "House"=some (some (.ref C_House)))
    (pg_House:PySem.W.plainGet K C_House Str.empty=true)
    (hd_House:PySem.W.hasDictIn K C_House=true)
    (po_House:PySem.W.plainOver K C_House=true)
    (sa_House:PySem.W.findIn K (.ref C_House) "__setattr__"=some (some (.builtin "object.__setattr__")))
    (mk_House:PySem.W.makesIn K C_House=true)
    (kc_House:PySem.W.keepIn K (.ref C_House)=true)
    (tc_House:PySem.W.findIn K (.ref C_House) "__class__"=some (some (.builtin "object.__class__")))
    (tm_House:PySem.W.mroIn K C_House (.type "object")=some true)
    (n_House_doors:PySem.W.findIn K (.ref C_House) "doors"=some none)
    (n_House_ways:PySem.W.findIn K (.ref C_House) "ways"=some none)
    (n_House_lamps:PySem.W.findIn K (.ref C_House) "lamps"=some none)
    (a_Book:PySem.W.nsIn K mainGlobals "Book"=some (some (.ref C_Book)))
    (pg_Book:PySem.W.plainGet K C_Book Str.empty=true)
    (hd_Book:PySem.W.hasDictIn K C_Book=true)
    (po_Book:PySem.W.plainOver K C_Book=true)
    (sa_Book:PySem.W.findIn K (.ref C_Book) "__setattr__"=some (some (.builtin "object.__setattr__")))
    (mk_Book:PySem.W.makesIn K C_Book=true)
    (kc_Book:PySem.W.keepIn K (.ref C_Book)=true)
    (tc_Book:PySem.W.findIn K (.ref C_Book) "__class__"=some (some (.builtin "object.__class__")))
    (tm_Book:PySem.W.mroIn K C_Book (.type "object")=some true)
    (n_Book_doors:PySem.W.findIn K (.ref C_Book) "doors"=some none)
    (n_Book_noted:PySem.W.findIn K (.ref C_Book) "noted"=some none)
    (a_Learner:PySem.W.nsIn K mainGlobals "Learner"=some (some (.ref C_Learner)))
    (pg_Learner:PySem.W.plainGet K C_Learner Str.empty=true)
    (hd_Learner:PySem.W.hasDictIn K C_Learner=true)
    (po_Learner:PySem.W.plainOver K C_Learner=true)
    (sa_Learner:PySem.W.findIn K (.ref C_Learner) "__setattr__"=some (some (.builtin "object.__setattr__")))
    (mk_Learner:PySem.W.makesIn K C_Learner=true)
    (kc_Learner:PySem.W.keepIn K (.ref C_Learner)=true)
    (tc_Learner:PySem.W.findIn K (.ref C_Learner) "__class__"=some (some (.builtin "object.__class__")))
    (tm_Learner:PySem.W.mroIn K C_Learner (.type "object")=some true)
    (n_Learner_book:PySem.W.findIn K (.ref C_Learner) "book"=some none)
    (n_Learner_doors:PySem.W.findIn K (.ref C_Learner) "doors"=some none)
    (n_Learner_heads:PySem.W.findIn K (.ref C_Learner) "heads"=some none)
    (n_Learner_tails:PySem.W.findIn K (.ref C_Learner) "tails"=some none)
    (n_Learner_lines:PySem.W.findIn K (.ref C_Learner) "lines"=some none)
    (n_Learner_rows:PySem.W.findIn K (.ref C_Learner) "rows"=some none)
    (n_Learner_filled:PySem.W.findIn K (.ref C_Learner) "filled"=some none)
    (a_HouseError:PySem.W.nsIn K mainGlobals "HouseError"=some (some (.ref C_HouseError)))
    (x_HouseError:PySem.W.excIn K C_HouseError bmV "ValueError.__new__"=true)
    (g1_HouseError:PySem.W.findIn K (.ref C_HouseError) "__getattribute__"=some (some (.builtin "BaseException.__getattribute__")))
    (g2_HouseError:PySem.W.findIn K (.ref C_HouseError) "__getattr__"=some none)
    (g3_HouseError:PySem.W.findIn K (.ref C_HouseError) "__class__"=some (some (.builtin "object.__class__")))
    (g4_HouseError:PySem.W.isClsIn K C_HouseError=true)
    (ty_HouseError:PySem.W.typeIn K (.ref C_HouseError)=some (.type "type"))
    (mv_HouseError:PySem.W.mroIn K C_HouseError (.type "ValueError")=some true)
    (ms_HouseError:PySem.W.mroIn K C_HouseError (.ref C_HouseError)=some true)
    (a_BadHouse:PySem.W.nsIn K mainGlobals "BadHouse"=some (some (.ref C_BadHouse)))
    (x_BadHouse:PySem.W.excIn K C_BadHouse bmV "ValueError.__new__"=true)
    (g1_BadHouse:PySem.W.findIn K (.ref C_BadHouse) "__getattribute__"=some (some (.builtin "BaseException.__getattribute__")))
    (g2_BadHouse:PySem.W.findIn K (.ref C_BadHouse) "__getattr__"=some none)
    (g3_BadHouse:PySem.W.findIn K (.ref C_BadHouse) "__class__"=some (some (.builtin "object.__class__")))
    (g4_BadHouse:PySem.W.isClsIn K C_BadHouse=true)
    (ty_BadHouse:PySem.W.typeIn K (.ref C_BadHouse)=some (.type "type"))
    (mv_BadHouse:PySem.W.mroIn K C_BadHouse (.type "ValueError")=some true)
    (ms_BadHouse:PySem.W.mroIn K C_BadHouse (.ref C_BadHouse)=some true)
    (a_BadWord:PySem.W.nsIn K mainGlobals "BadWord"=some (some (.ref C_BadWord)))
    (x_BadWord:PySem.W.excIn K C_BadWord bmV "ValueError.__new__"=true)
    (g1_BadWord:PySem.W.findIn K (.ref C_BadWord) "__getattribute__"=some (some (.builtin "BaseException.__getattribute__")))
    (g2_BadWord:PySem.W.findIn K (.ref C_BadWord) "__getattr__"=some none)
    (g3_BadWord:PySem.W.findIn K (.ref C_BadWord) "__class__"=some (some (.builtin "object.__class__")))
    (g4_BadWord:PySem.W.isClsIn K C_BadWord=true)
    (ty_BadWord:PySem.W.typeIn K (.ref C_BadWord)=some (.type "type"))
    (mv_BadWord:PySem.W.mroIn K C_BadWord (.type "ValueError")=some true)
    (ms_BadWord:PySem.W.mroIn K C_BadWord (.ref C_BadWord)=some true)
    (a_NoRoom:PySem.W.nsIn K mainGlobals "NoRoom"=some (some (.ref C_NoRoom)))
    (x_NoRoom:PySem.W.excIn K C_NoRoom bmV "ValueError.__new__"=true)
    (g1_NoRoom:PySem.W.findIn K (.ref C_NoRoom) "__getattribute__"=some (some (.builtin "BaseException.__getattribute__")))
    (g2_NoRoom:PySem.W.findIn K (.ref C_NoRoom) "__getattr__"=some none)
    (g3_NoRoom:PySem.W.findIn K (.ref C_NoRoom) "__class__"=some (some (.builtin "object.__class__")))
    (g4_NoRoom:PySem.W.isClsIn K C_NoRoom=true)
    (ty_NoRoom:PySem.W.typeIn K (.ref C_NoRoom)=some (.type "type"))
    (mv_NoRoom:PySem.W.mroIn K C_NoRoom (.type "ValueError")=some true)
    (ms_NoRoom:PySem.W.mroIn K C_NoRoom (.ref C_NoRoom)=some true)
    (a_OtherDoors:PySem.W.nsIn K mainGlobals "OtherDoors"=some (some (.ref C_OtherDoors)))
    (x_OtherDoors:PySem.W.excIn K C_OtherDoors bmV "ValueError.__new__"=true)
    (g1_OtherDoors:PySem.W.findIn K (.ref C_OtherDoors) "__getattribute__"=some (some (.builtin "BaseException.__getattribute__")))
    (g2_OtherDoors:PySem.W.findIn K (.ref C_OtherDoors) "__getattr__"=some none)
    (g3_OtherDoors:PySem.W.findIn K (.ref C_OtherDoors) "__class__"=some (some (.builtin "object.__class__")))
    (g4_OtherDoors:PySem.W.isClsIn K C_OtherDoors=true)
    (ty_OtherDoors:PySem.W.typeIn K (.ref C_OtherDoors)=some (.type "type"))
    (mv_OtherDoors:PySem.W.mroIn K C_OtherDoors (.type "ValueError")=some true)
    (ms_OtherDoors:PySem.W.mroIn K C_OtherDoors (.ref C_OtherDoors)=some true)
    (a_TooGreat:PySem.W.nsIn K mainGlobals "TooGreat"=some (some (.ref C_TooGreat)))
    (x_TooGreat:PySem.W.excIn K C_TooGreat bmV "ValueError.__new__"=true)
    (g1_TooGreat:PySem.W.findIn K (.ref C_TooGreat) "__getattribute__"=some (some (.builtin "BaseException.__getattribute__")))
    (g2_TooGreat:PySem.W.findIn K (.ref C_TooGreat) "__getattr__"=some none)
    (g3_TooGreat:PySem.W.findIn K (.ref C_TooGreat) "__class__"=some (some (.builtin "object.__class__")))
    (g4_TooGreat:PySem.W.isClsIn K C_TooGreat=true)
    (ty_TooGreat:PySem.W.typeIn K (.ref C_TooGreat)=some (.type "type"))
    (mv_TooGreat:PySem.W.mroIn K C_TooGreat (.type "ValueError")=some true)
    (ms_TooGreat:PySem.W.mroIn K C_TooGreat (.ref C_TooGreat)=some true)
    (a_NoSuch:PySem.W.nsIn K mainGlobals "NoSuch"=some (some (.ref C_NoSuch)))
    (x_NoSuch:PySem.W.excIn K C_NoSuch bmV "ValueError.__new__"=true)
    (g1_NoSuch:PySem.W.findIn K (.ref C_NoSuch) "__getattribute__"=some (some (.builtin "BaseException.__getattribute__")))
    (g2_NoSuch:PySem.W.findIn K (.ref C_NoSuch) "__getattr__"=some none)
    (g3_NoSuch:PySem.W.findIn K (.ref C_NoSuch) "__class__"=some (some (.builtin "object.__class__")))
    (g4_NoSuch:PySem.W.isClsIn K C_NoSuch=true)
    (ty_NoSuch:PySem.W.typeIn K (.ref C_NoSuch)=some (.type "type"))
    (mv_NoSuch:PySem.W.mroIn K C_NoSuch (.type "ValueError")=some true)
    (ms_NoSuch:PySem.W.mroIn K C_NoSuch (.ref C_NoSuch)=some true)
    (a_SaidOtherwise:PySem.W.nsIn K mainGlobals "SaidOtherwise"=some (some (.ref C_SaidOtherwise)))
    (x_SaidOtherwise:PySem.W.excIn K C_SaidOtherwise bmV "ValueError.__new__"=true)
    (g1_SaidOtherwise:PySem.W.findIn K (.ref C_SaidOtherwise) "__getattribute__"=some (some (.builtin "BaseException.__getattribute__")))
    (g2_SaidOtherwise:PySem.W.findIn K (.ref C_SaidOtherwise) "__getattr__"=some none)
    (g3_SaidOtherwise:PySem.W.findIn K (.ref C_SaidOtherwise) "__class__"=some (some (.builtin "object.__class__")))
    (g4_SaidOtherwise:PySem.W.isClsIn K C_SaidOtherwise=true)
    (ty_SaidOtherwise:PySem.W.typeIn K (.ref C_SaidOtherwise)=some (.type "type"))
    (mv_SaidOtherwise:PySem.W.mroIn K C_SaidOtherwise (.type "ValueError")=some true)
    (ms_SaidOtherwise:PySem.W.mroIn K C_SaidOtherwise (.ref C_SaidOtherwise)=some true)
    (a_NotAsked:PySem.W.nsIn K mainGlobals "NotAsked"=some (some (.ref C_NotAsked)))
    (x_NotAsked:PySem.W.excIn K C_NotAsked bmV "ValueError.__new__"=true)
    (g1_NotAsked:PySem.W.findIn K (.ref C_NotAsked) "__getattribute__"=some (some (.builtin "BaseException.__getattribute__")))
    (g2_NotAsked:PySem.W.findIn K (.ref C_NotAsked) "__getattr__"=some none)
    (g3_NotAsked:PySem.W.findIn K (.ref C_NotAsked) "__class__"=some (some (.builtin "object.__class__")))
    (g4_NotAsked:PySem.W.isClsIn K C_NotAsked=true)
    (ty_NotAsked:PySem.W.typeIn K (.ref C_NotAsked)=some (.type "type"))
    (mv_NotAsked:PySem.W.mroIn K C_NotAsked (.type "ValueError")=some true)
    (ms_NotAsked:PySem.W.mroIn K C_NotAsked (.ref C_NotAsked)=some true)
    (a_NotYet:PySem.W.nsIn K mainGlobals "NotYet"=some (some (.ref C_NotYet)))
    (x_NotYet:PySem.W.excIn K C_NotYet bmV "ValueError.__new__"=true)
    (g1_NotYet:PySem.W.findIn K (.ref C_NotYet) "__getattribute__"=some (some (.builtin "BaseException.__getattribute__")))
    (g2_NotYet:PySem.W.findIn K (.ref C_NotYet) "__getattr__"=some none)
    (g3_NotYet:PySem.W.findIn K (.ref C_NotYet) "__class__"=some (some (.builtin "object.__class__")))
    (g4_NotYet:PySem.W.isClsIn K C_NotYet=true)
    (ty_NotYet:PySem.W.typeIn K (.ref C_NotYet)=some (.type "type"))
    (mv_NotYet:PySem.W.mroIn K C_NotYet (.type "ValueError")=some true)
    (ms_NotYet:PySem.W.mroIn K C_NotYet (.ref C_NotYet)=some true)
    (a_NotWrong:PySem.W.nsIn K mainGlobals "NotWrong"=some (some (.ref C_NotWrong)))
    (x_NotWrong:PySem.W.excIn K C_NotWrong bmV "ValueError.__new__"=true)
    (g1_NotWrong:PySem.W.findIn K (.ref C_NotWrong) "__getattribute__"=some (some (.builtin "BaseException.__getattribute__")))
    (g2_NotWrong:PySem.W.findIn K (.ref C_NotWrong) "__getattr__"=some none)
    (g3_NotWrong:PySem.W.findIn K (.ref C_NotWrong) "__class__"=some (some (.builtin "object.__class__")))
    (g4_NotWrong:PySem.W.isClsIn K C_NotWrong=true)
    (ty_NotWrong:PySem.W.typeIn K (.ref C_NotWrong)=some (.type "type"))
    (mv_NotWrong:PySem.W.mroIn K C_NotWrong (.type "ValueError")=some true)
    (ms_NotWrong:PySem.W.mroIn K C_NotWrong (.ref C_NotWrong)=some true)
    (a_BadText:PySem.W.nsIn K mainGlobals "BadText"=some (some (.ref C_BadText)))
    (x_BadText:PySem.W.excIn K C_BadText bmV "ValueError.__new__"=true)
    (g1_BadText:PySem.W.findIn K (.ref C_BadText) "__getattribute__"=some (some (.builtin "BaseException.__getattribute__")))
    (g2_BadText:PySem.W.findIn K (.ref C_BadText) "__getattr__"=some none)
    (g3_BadText:PySem.W.findIn K (.ref C_BadText) "__class__"=some (some (.builtin "object.__class__")))
    (g4_BadText:PySem.W.isClsIn K C_BadText=true)
    (ty_BadText:PySem.W.typeIn K (.ref C_BadText)=some (.type "type"))
    (mv_BadText:PySem.W.mroIn K C_BadText (.type "ValueError")=some true)
    (ms_BadText:PySem.W.mroIn K C_BadText (.ref C_BadText)=some true)
    (mb_HouseError:PySem.W.mroIn K C_HouseError (.type "BaseException")=some true)
    (mb_BadHouse:PySem.W.mroIn K C_BadHouse (.type "BaseException")=some true)
    (mb_BadWord:PySem.W.mroIn K C_BadWord (.type "BaseException")=some true)
    (mb_NoRoom:PySem.W.mroIn K C_NoRoom (.type "BaseException")=some true)
    (mb_OtherDoors:PySem.W.mroIn K C_OtherDoors (.type "BaseException")=some true)
    (mb_TooGreat:PySem.W.mroIn K C_TooGreat (.type "BaseException")=some true)
    (mb_NoSuch:PySem.W.mroIn K C_NoSuch (.type "BaseException")=some true)
    (mb_SaidOtherwise:PySem.W.mroIn K C_SaidOtherwise (.type "BaseException")=some true)
    (mb_NotAsked:PySem.W.mroIn K C_NotAsked (.type "BaseException")=some true)
    (mb_NotYet:PySem.W.mroIn K C_NotYet (.type "BaseException")=some true)
    (mb_NotWrong:PySem.W.mroIn K C_NotWrong (.type "BaseException")=some true)
    (mb_BadText:PySem.W.mroIn K C_BadText (.type "BaseException")=some true)
    (mr_BadHouse_HouseError:PySem.W.mroIn K C_BadHouse (.ref C_HouseError)=some true)
    (mr_BadHouse_BadWord:PySem.W.mroIn K C_BadHouse (.ref C_BadWord)=some false)
    (mr_BadHouse_NoRoom:PySem.W.mroIn K C_BadHouse (.ref C_NoRoom)=some false)
    (mr_BadHouse_OtherDoors:PySem.W.mroIn K C_BadHouse (.ref C_OtherDoors)=some false)
    (mr_BadHouse_TooGreat:PySem.W.mroIn K C_BadHouse (.ref C_TooGreat)=some false)
    (mr_BadHouse_NoSuch:PySem.W.mroIn K C_BadHouse (.ref C_NoSuch)=some false)
    (mr_BadHouse_SaidOtherwise:PySem.W.mroIn K C_BadHouse (.ref C_SaidOtherwise)=some false)
    (mr_BadHouse_NotAsked:PySem.W.mroIn K C_BadHouse (.ref C_NotAsked)=some false)
    (mr_BadHouse_NotYet:PySem.W.mroIn K C_BadHouse (.ref C_NotYet)=some false)
    (mr_BadHouse_NotWrong:PySem.W.mroIn K C_BadHouse (.ref C_NotWrong)=some false)
    (mr_BadHouse_BadText:PySem.W.mroIn K C_BadHouse (.ref C_BadText)=some false)
    (mr_BadWord_HouseError:PySem.W.mroIn K C_BadWord (.ref C_HouseError)=some true)
    (mr_BadWord_BadHouse:PySem.W.mroIn K C_BadWord (.ref C_BadHouse)=some false)
    (mr_BadWord_NoRoom:PySem.W.mroIn K C_BadWord (.ref C_NoRoom)=some false)
    (mr_BadWord_OtherDoors:PySem.W.mroIn K C_BadWord (.ref C_OtherDoors)=some false)
    (mr_BadWord_TooGreat:PySem.W.mroIn K C_BadWord (.ref C_TooGreat)=some false)
    (mr_BadWord_NoSuch:PySem.W.mroIn K C_BadWord (.ref C_NoSuch)=some false)
    (mr_BadWord_SaidOtherwise:PySem.W.mroIn K C_BadWord (.ref C_SaidOtherwise)=some false)
    (mr_BadWord_NotAsked:PySem.W.mroIn K C_BadWord (.ref C_NotAsked)=some false)
    (mr_BadWord_NotYet:PySem.W.mroIn K C_BadWord (.ref C_NotYet)=some false)
    (mr_BadWord_NotWrong:PySem.W.mroIn K C_BadWord (.ref C_NotWrong)=some false)
    (mr_BadWord_BadText:PySem.W.mroIn K C_BadWord (.ref C_BadText)=some false)
    (mr_NoRoom_HouseError:PySem.W.mroIn K C_NoRoom (.ref C_HouseError)=some true)
    (mr_NoRoom_BadHouse:PySem.W.mroIn K C_NoRoom (.ref C_BadHouse)=some false)
    (mr_NoRoom_BadWord:PySem.W.mroIn K C_NoRoom (.ref C_BadWord)=some false)
    (mr_NoRoom_OtherDoors:PySem.W.mroIn K C_NoRoom (.ref C_OtherDoors)=some false)
    (mr_NoRoom_TooGreat:PySem.W.mroIn K C_NoRoom (.ref C_TooGreat)=some false)
    (mr_NoRoom_NoSuch:PySem.W.mroIn K C_NoRoom (.ref C_NoSuch)=some false)
    (mr_NoRoom_SaidOtherwise:PySem.W.mroIn K C_NoRoom (.ref C_SaidOtherwise)=some false)
    (mr_NoRoom_NotAsked:PySem.W.mroIn K C_NoRoom (.ref C_NotAsked)=some false)
    (mr_NoRoom_NotYet:PySem.W.mroIn K C_NoRoom (.ref C_NotYet)=some false)
    (mr_NoRoom_NotWrong:PySem.W.mroIn K C_NoRoom (.ref C_NotWrong)=some false)
    (mr_NoRoom_BadText:PySem.W.mroIn K C_NoRoom (.ref C_BadText)=some false)
    (mr_OtherDoors_HouseError:PySem.W.mroIn K C_OtherDoors (.ref C_HouseError)=some true)
    (mr_OtherDoors_BadHouse:PySem.W.mroIn K C_OtherDoors (.ref C_BadHouse)=some false)
    (mr_OtherDoors_BadWord:PySem.W.mroIn K C_OtherDoors (.ref C_BadWord)=some false)
    (mr_OtherDoors_NoRoom:PySem.W.mroIn K C_OtherDoors (.ref C_NoRoom)=some false)
    (mr_OtherDoors_TooGreat:PySem.W.mroIn K C_OtherDoors (.ref C_TooGreat)=some false)
    (mr_OtherDoors_NoSuch:PySem.W.mroIn K C_OtherDoors (.ref C_NoSuch)=some false)
    (mr_OtherDoors_SaidOtherwise:PySem.W.mroIn K C_OtherDoors (.ref C_SaidOtherwise)=some false)
    (mr_OtherDoors_NotAsked:PySem.W.mroIn K C_OtherDoors (.ref C_NotAsked)=some false)
    (mr_OtherDoors_NotYet:PySem.W.mroIn K C_OtherDoors (.ref C_NotYet)=some false)
    (mr_OtherDoors_NotWrong:PySem.W.mroIn K C_OtherDoors (.ref C_NotWrong)=some false)
    (mr_OtherDoors_BadText:PySem.W.mroIn K C_OtherDoors (.ref C_BadText)=some false)
    (mr_TooGreat_HouseError:PySem.W.mroIn K C_TooGreat (.ref C_HouseError)=some true)
    (mr_TooGreat_BadHouse:PySem.W.mroIn K C_TooGreat (.ref C_BadHouse)=some false)
    (mr_TooGreat_BadWord:PySem.W.mroIn K C_TooGreat (.ref C_BadWord)=some false)
    (mr_TooGreat_NoRoom:PySem.W.mroIn K C_TooGreat (.ref C_NoRoom)=some false)
    (mr_TooGreat_OtherDoors:PySem.W.mroIn K C_TooGreat (.ref C_OtherDoors)=some false)
    (mr_TooGreat_NoSuch:PySem.W.mroIn K C_TooGreat (.ref C_NoSuch)=some false)
    (mr_TooGreat_SaidOtherwise:PySem.W.mroIn K C_TooGreat (.ref C_SaidOtherwise)=some false)
    (mr_TooGreat_NotAsked:PySem.W.mroIn K C_TooGreat (.ref C_NotAsked)=some false)
    (mr_TooGreat_NotYet:PySem.W.mroIn K C_TooGreat (.ref C_NotYet)=some false)
    (mr_TooGreat_NotWrong:PySem.W.mroIn K C_TooGreat (.ref C_NotWrong)=some false)
    (mr_TooGreat_BadText:PySem.W.mroIn K C_TooGreat (.ref C_BadText)=some false)
    (mr_NoSuch_HouseError:PySem.W.mroIn K C_NoSuch (.ref C_HouseError)=some true)
    (mr_NoSuch_BadHouse:PySem.W.mroIn K C_NoSuch (.ref C_BadHouse)=some false)
    (mr_NoSuch_BadWord:PySem.W.mroIn K C_NoSuch (.ref C_BadWord)=some false)
    (mr_NoSuch_NoRoom:PySem.W.mroIn K C_NoSuch (.ref C_NoRoom)=some false)
    (mr_NoSuch_OtherDoors:PySem.W.mroIn K C_NoSuch (.ref C_OtherDoors)=some false)
    (mr_NoSuch_TooGreat:PySem.W.mroIn K C_NoSuch (.ref C_TooGreat)=some false)
    (mr_NoSuch_SaidOtherwise:PySem.W.mroIn K C_NoSuch (.ref C_SaidOtherwise)=some false)
    (mr_NoSuch_NotAsked:PySem.W.mroIn K C_NoSuch (.ref C_NotAsked)=some false)
    (mr_NoSuch_NotYet:PySem.W.mroIn K C_NoSuch (.ref C_NotYet)=some false)
    (mr_NoSuch_NotWrong:PySem.W.mroIn K C_NoSuch (.ref C_NotWrong)=some false)
    (mr_NoSuch_BadText:PySem.W.mroIn K C_NoSuch (.ref C_BadText)=some false)
    (mr_SaidOtherwise_HouseError:PySem.W.mroIn K C_SaidOtherwise (.ref C_HouseError)=some true)
    (mr_SaidOtherwise_BadHouse:PySem.W.mroIn K C_SaidOtherwise (.ref C_BadHouse)=some false)
    (mr_SaidOtherwise_BadWord:PySem.W.mroIn K C_SaidOtherwise (.ref C_BadWord)=some false)
    (mr_SaidOtherwise_NoRoom:PySem.W.mroIn K C_SaidOtherwise (.ref C_NoRoom)=some false)
    (mr_SaidOtherwise_OtherDoors:PySem.W.mroIn K C_SaidOtherwise (.ref C_OtherDoors)=some false)
    (mr_SaidOtherwise_TooGreat:PySem.W.mroIn K C_SaidOtherwise (.ref C_TooGreat)=some false)
    (mr_SaidOtherwise_NoSuch:PySem.W.mroIn K C_SaidOtherwise (.ref C_NoSuch)=some false)
    (mr_SaidOtherwise_NotAsked:PySem.W.mroIn K C_SaidOtherwise (.ref C_NotAsked)=some false)
    (mr_SaidOtherwise_NotYet:PySem.W.mroIn K C_SaidOtherwise (.ref C_NotYet)=some false)
    (mr_SaidOtherwise_NotWrong:PySem.W.mroIn K C_SaidOtherwise (.ref C_NotWrong)=some false)
    (mr_SaidOtherwise_BadText:PySem.W.mroIn K C_SaidOtherwise (.ref C_BadText)=some false)
    (mr_NotAsked_HouseError:PySem.W.mroIn K C_NotAsked (.ref C_HouseError)=some true)
    (mr_NotAsked_BadHouse:PySem.W.mroIn K C_NotAsked (.ref C_BadHouse)=some false)
    (mr_NotAsked_BadWord:PySem.W.mroIn K C_NotAsked (.ref C_BadWord)=some false)
    (mr_NotAsked_NoRoom:PySem.W.mroIn K C_NotAsked (.ref C_NoRoom)=some false)
    (mr_NotAsked_OtherDoors:PySem.W.mroIn K C_NotAsked (.ref C_OtherDoors)=some false)
    (mr_NotAsked_TooGreat:PySem.W.mroIn K C_NotAsked (.ref C_TooGreat)=some false)
    (mr_NotAsked_NoSuch:PySem.W.mroIn K C_NotAsked (.ref C_NoSuch)=some false)
    (mr_NotAsked_SaidOtherwise:PySem.W.mroIn K C_NotAsked (.ref C_SaidOtherwise)=some false)
    (mr_NotAsked_NotYet:PySem.W.mroIn K C_NotAsked (.ref C_NotYet)=some false)
    (mr_NotAsked_NotWrong:PySem.W.mroIn K C_NotAsked (.ref C_NotWrong)=some false)
    (mr_NotAsked_BadText:PySem.W.mroIn K C_NotAsked (.ref C_BadText)=some false)
    (mr_NotYet_HouseError:PySem.W.mroIn K C_NotYet (.ref C_HouseError)=some true)
    (mr_NotYet_BadHouse:PySem.W.mroIn K C_NotYet (.ref C_BadHouse)=some false)
    (mr_NotYet_BadWord:PySem.W.mroIn K C_NotYet (.ref C_BadWord)=some false)
    (mr_NotYet_NoRoom:PySem.W.mroIn K C_NotYet (.ref C_NoRoom)=some false)
    (mr_NotYet_OtherDoors:PySem.W.mroIn K C_NotYet (.ref C_OtherDoors)=some false)
    (mr_NotYet_TooGreat:PySem.W.mroIn K C_NotYet (.ref C_TooGreat)=some false)
    (mr_NotYet_NoSuch:PySem.W.mroIn K C_NotYet (.ref C_NoSuch)=some false)
    (mr_NotYet_SaidOtherwise:PySem.W.mroIn K C_NotYet (.ref C_SaidOtherwise)=some false)
    (mr_NotYet_NotAsked:PySem.W.mroIn K C_NotYet (.ref C_NotAsked)=some false)
    (mr_NotYet_NotWrong:PySem.W.mroIn K C_NotYet (.ref C_NotWrong)=some false)
    (mr_NotYet_BadText:PySem.W.mroIn K C_NotYet (.ref C_BadText)=some false)
    (mr_NotWrong_HouseError:PySem.W.mroIn K C_NotWrong (.ref C_HouseError)=some true)
    (mr_NotWrong_BadHouse:PySem.W.mroIn K C_NotWrong (.ref C_BadHouse)=some false)
    (mr_NotWrong_BadWord:PySem.W.mroIn K C_NotWrong (.ref C_BadWord)=some false)
    (mr_NotWrong_NoRoom:PySem.W.mroIn K C_NotWrong (.ref C_NoRoom)=some false)
    (mr_NotWrong_OtherDoors:PySem.W.mroIn K C_NotWrong (.ref C_OtherDoors)=some false)
    (mr_NotWrong_TooGreat:PySem.W.mroIn K C_NotWrong (.ref C_TooGreat)=some false)
    (mr_NotWrong_NoSuch:PySem.W.mroIn K C_NotWrong (.ref C_NoSuch)=some false)
    (mr_NotWrong_SaidOtherwise:PySem.W.mroIn K C_NotWrong (.ref C_SaidOtherwise)=some false)
    (mr_NotWrong_NotAsked:PySem.W.mroIn K C_NotWrong (.ref C_NotAsked)=some false)
    (mr_NotWrong_NotYet:PySem.W.mroIn K C_NotWrong (.ref C_NotYet)=some false)
    (mr_NotWrong_BadText:PySem.W.mroIn K C_NotWrong (.ref C_BadText)=some false)
    (mr_BadText_HouseError:PySem.W.mroIn K C_BadText (.ref C_HouseError)=some true)
    (mr_BadText_BadHouse:PySem.W.mroIn K C_BadText (.ref C_BadHouse)=some false)
    (mr_BadText_BadWord:PySem.W.mroIn K C_BadText (.ref C_BadWord)=some false)
    (mr_BadText_NoRoom:PySem.W.mroIn K C_BadText (.ref C_NoRoom)=some false)
    (mr_BadText_OtherDoors:PySem.W.mroIn K C_BadText (.ref C_OtherDoors)=some false)
    (mr_BadText_TooGreat:PySem.W.mroIn K C_BadText (.ref C_TooGreat)=some false)
    (mr_BadText_NoSuch:PySem.W.mroIn K C_BadText (.ref C_NoSuch)=some false)
    (mr_BadText_SaidOtherwise:PySem.W.mroIn K C_BadText (.ref C_SaidOtherwise)=some false)
    (mr_BadText_NotAsked:PySem.W.mroIn K C_BadText (.ref C_NotAsked)=some false)
    (mr_BadText_NotYet:PySem.W.mroIn K C_BadText (.ref C_NotYet)=some false)
    (mr_BadText_NotWrong:PySem.W.mroIn K C_BadText (.ref C_NotWrong)=some false)
    (tg:PySem.W.specialIn K (.builtin "object.__class__") "__get__"=some (some (.builtin "getset_descriptor.__get__")))
    (tt:PySem.W.takesIn K (.builtin "object.__class__")=some true)
    (a0:PySem.W.nsIn K mainGlobals "check_doors"=some (some (.ref f0)))
    (l0:K.lookup f0=some ⟨oc0,od0,.func (PySem.W.fnOf "check_doors" "check_doors" (defArgs s_check_doors) (defBody s_check_doors) (defScope s_check_doors) .none kV0 dc0 pm0 an0 cd0 ct0),sl0⟩)
    (c0:PySem.W.codeIn K cd0 "check_doors"=true)
    (k0:PySem.W.keepIn K (.ref f0)=true)
    (a1:PySem.W.nsIn K mainGlobals "check_house"=some (some (.ref f1)))
    (l1:K.lookup f1=some ⟨oc1,od1,.func (PySem.W.fnOf "check_house" "check_house" (defArgs s_check_house) (defBody s_check_house) (defScope s_check_house) .none kV1 dc1 pm1 an1 cd1 ct1),sl1⟩)
    (c1:PySem.W.codeIn K cd1 "check_house"=true)
    (k1:PySem.W.keepIn K (.ref f1)=true)
    (a2:PySem.W.nsIn K mainGlobals "check_word"=some (some (.ref f2)))
    (l2:K.lookup f2=some ⟨oc2,od2,.func (PySem.W.fnOf "check_word" "check_word" (defArgs s_check_word) (defBody s_check_word) (defScope s_check_word) .none kV2 dc2 pm2 an2 cd2 ct2),sl2⟩)
    (c2:PySem.W.codeIn K cd2 "check_word"=true)
    (k2:PySem.W.keepIn K (.ref f2)=true)
    (a3:PySem.W.findIn K (.ref C_House) "__init__"=some (some (.ref f3)))
    (i3:PySem.W.isFn K (.ref f3)=true)
    (l3:K.lookup f3=some ⟨oc3,od3,.func (PySem.W.fnOf "__init__" "House.__init__" (defArgs s_House_init) (defBody s_House_init) (defScope s_House_init) .none kV3 dc3 pm3 an3 cd3 ct3),sl3⟩)
    (c3:PySem.W.codeIn K cd3 "House.__init__"=true)
    (k3:PySem.W.keepIn K (.ref f3)=true)
    (a4:PySem.W.findIn K (.ref C_House) "rooms"=some (some (.ref f4)))
    (i4:PySem.W.isFn K (.ref f4)=true)
    (l4:K.lookup f4=some ⟨oc4,od4,.func (PySem.W.fnOf "rooms" "House.rooms" (defArgs s_House_rooms) (defBody s_House_rooms) (defScope s_House_rooms) .none kV4 dc4 pm4 an4 cd4 ct4),sl4⟩)
    (c4:PySem.W.codeIn K cd4 "House.rooms"=true)
    (k4:PySem.W.keepIn K (.ref f4)=true)
    (a5:PySem.W.findIn K (.ref C_House) "trail"=some (some (.ref f5)))
    (i5:PySem.W.isFn K (.ref f5)=true)
    (l5:K.lookup f5=some ⟨oc5,od5,.func (PySem.W.fnOf "trail" "House.trail" (defArgs s_House_trail) (defBody s_House_trail) (defScope s_House_trail) .none kV5 dc5 pm5 an5 cd5 ct5),sl5⟩)
    (c5:PySem.W.codeIn K cd5 "House.trail"=true)
    (k5:PySem.W.keepIn K (.ref f5)=true)
    (a6:PySem.W.findIn K (.ref C_House) "room_of"=some (some (.ref f6)))
    (i6:PySem.W.isFn K (.ref f6)=true)
    (l6:K.lookup f6=some ⟨oc6,od6,.func (PySem.W.fnOf "room_of" "House.room_of" (defArgs s_House_room_of) (defBody s_House_room_of) (defScope s_House_room_of) .none kV6 dc6 pm6 an6 cd6 ct6),sl6⟩)
    (c6:PySem.W.codeIn K cd6 "House.room_of"=true)
    (k6:PySem.W.keepIn K (.ref f6)=true)
    (a7:PySem.W.findIn K (.ref C_House) "says"=some (some (.ref f7)))
    (i7:PySem.W.isFn K (.ref f7)=true)
    (l7:K.lookup f7=some ⟨oc7,od7,.func (PySem.W.fnOf "says" "House.says" (defArgs s_House_says) (defBody s_House_says) (defScope s_House_says) .none kV7 dc7 pm7 an7 cd7 ct7),sl7⟩)
    (c7:PySem.W.codeIn K cd7 "House.says"=true)
    (k7:PySem.W.keepIn K (.ref f7)=true)
    (a8:PySem.W.findIn K (.ref C_Book) "__init__"=some (some (.ref f8)))
    (i8:PySem.W.isFn K (.ref f8)=true)
    (l8:K.lookup f8=some ⟨oc8,od8,.func (PySem.W.fnOf "__init__" "Book.__init__" (defArgs s_Book_init) (defBody s_Book_init) (defScope s_Book_init) .none kV8 dc8 pm8 an8 cd8 ct8),sl8⟩)
    (c8:PySem.W.codeIn K cd8 "Book.__init__"=true)
    (k8:PySem.W.keepIn K (.ref f8)=true)
    (a9:PySem.W.findIn K (.ref C_Book) "said"=some (some (.ref f9)))
    (i9:PySem.W.isFn K (.ref f9)=true)
    (l9:K.lookup f9=some ⟨oc9,od9,.func (PySem.W.fnOf "said" "Book.said" (defArgs s_Book_said) (defBody s_Book_said) (defScope s_Book_said) .none kV9 dc9 pm9 an9 cd9 ct9),sl9⟩)
    (c9:PySem.W.codeIn K cd9 "Book.said"=true)
    (k9:PySem.W.keepIn K (.ref f9)=true)
    (a10:PySem.W.findIn K (.ref C_Book) "check_note"=some (some (.ref f10)))
    (i10:PySem.W.isFn K (.ref f10)=true)
    (l10:K.lookup f10=some ⟨oc10,od10,.func (PySem.W.fnOf "check_note" "Book.check_note" (defArgs s_Book_check_note) (defBody s_Book_check_note) (defScope s_Book_check_note) .none kV10 dc10 pm10 an10 cd10 ct10),sl10⟩)
    (c10:PySem.W.codeIn K cd10 "Book.check_note"=true)
    (k10:PySem.W.keepIn K (.ref f10)=true)
    (a11:PySem.W.findIn K (.ref C_Book) "note"=some (some (.ref f11)))
    (i11:PySem.W.isFn K (.ref f11)=true)
    (l11:K.lookup f11=some ⟨oc11,od11,.func (PySem.W.fnOf "note" "Book.note" (defArgs s_Book_note) (defBody s_Book_note) (defScope s_Book_note) .none kV11 dc11 pm11 an11 cd11 ct11),sl11⟩)
    (c11:PySem.W.codeIn K cd11 "Book.note"=true)
    (k11:PySem.W.keepIn K (.ref f11)=true)
    (a12:PySem.W.nsIn K mainGlobals "leader"=some (some (.ref f12)))
    (l12:K.lookup f12=some ⟨oc12,od12,.func (PySem.W.fnOf "leader" "leader" (defArgs s_leader) (defBody s_leader) (defScope s_leader) .none kV12 dc12 pm12 an12 cd12 ct12),sl12⟩)
    (c12:PySem.W.codeIn K cd12 "leader"=true)
    (k12:PySem.W.keepIn K (.ref f12)=true)
    (a13:PySem.W.nsIn K mainGlobals "newly_linked"=some (some (.ref f13)))
    (l13:K.lookup f13=some ⟨oc13,od13,.func (PySem.W.fnOf "newly_linked" "newly_linked" (defArgs s_newly_linked) (defBody s_newly_linked) (defScope s_newly_linked) .none kV13 dc13 pm13 an13 cd13 ct13),sl13⟩)
    (c13:PySem.W.codeIn K cd13 "newly_linked"=true)
    (k13:PySem.W.keepIn K (.ref f13)=true)
    (a14:PySem.W.nsIn K mainGlobals "pairs_behind"=some (some (.ref f14)))
    (l14:K.lookup f14=some ⟨oc14,od14,.func (PySem.W.fnOf "pairs_behind" "pairs_behind" (defArgs s_pairs_behind) (defBody s_pairs_behind) (defScope s_pairs_behind) .none kV14 dc14 pm14 an14 cd14 ct14),sl14⟩)
    (c14:PySem.W.codeIn K cd14 "pairs_behind"=true)
    (k14:PySem.W.keepIn K (.ref f14)=true)
    (a15:PySem.W.nsIn K mainGlobals "parting_word"=some (some (.ref f15)))
    (l15:K.lookup f15=some ⟨oc15,od15,.func (PySem.W.fnOf "parting_word" "parting_word" (defArgs s_parting_word) (defBody s_parting_word) (defScope s_parting_word) .none kV15 dc15 pm15 an15 cd15 ct15),sl15⟩)
    (c15:PySem.W.codeIn K cd15 "parting_word"=true)
    (k15:PySem.W.keepIn K (.ref f15)=true)
    (a16:PySem.W.nsIn K mainGlobals "check_room"=some (some (.ref f16)))
    (l16:K.lookup f16=some ⟨oc16,od16,.func (PySem.W.fnOf "check_room" "check_room" (defArgs s_check_room) (defBody s_check_room) (defScope s_check_room) .none kV16 dc16 pm16 an16 cd16 ct16),sl16⟩)
    (c16:PySem.W.codeIn K cd16 "check_room"=true)
    (k16:PySem.W.keepIn K (.ref f16)=true)
    (a17:PySem.W.nsIn K mainGlobals "apart"=some (some (.ref f17)))
    (l17:K.lookup f17=some ⟨oc17,od17,.func (PySem.W.fnOf "apart" "apart" (defArgs s_apart) (defBody s_apart) (defScope s_apart) .none kV17 dc17 pm17 an17 cd17 ct17),sl17⟩)
    (c17:PySem.W.codeIn K cd17 "apart"=true)
    (k17:PySem.W.keepIn K (.ref f17)=true)
    (a18:PySem.W.nsIn K mainGlobals "check_same_doors"=some (some (.ref f18)))
    (l18:K.lookup f18=some ⟨oc18,od18,.func (PySem.W.fnOf "check_same_doors" "check_same_doors" (defArgs s_check_same_doors) (defBody s_check_same_doors) (defScope s_check_same_doors) .none kV18 dc18 pm18 an18 cd18 ct18),sl18⟩)
    (c18:PySem.W.codeIn K cd18 "check_same_doors"=true)
    (k18:PySem.W.keepIn K (.ref f18)=true)
    (a19:PySem.W.nsIn K mainGlobals "difference"=some (some (.ref f19)))
    (l19:K.lookup f19=some ⟨oc19,od19,.func (PySem.W.fnOf "difference" "difference" (defArgs s_difference) (defBody s_difference) (defScope s_difference) .none kV19 dc19 pm19 an19 cd19 ct19),sl19⟩)
    (c19:PySem.W.codeIn K cd19 "difference"=true)
    (k19:PySem.W.keepIn K (.ref f19)=true)
    (a20:PySem.W.nsIn K mainGlobals "pairs_ahead"=some (some (.ref f20)))
    (l20:K.lookup f20=some ⟨oc20,od20,.func (PySem.W.fnOf "pairs_ahead" "pairs_ahead" (defArgs s_pairs_ahead) (defBody s_pairs_ahead) (defScope s_pairs_ahead) .none kV20 dc20 pm20 an20 cd20 ct20),sl20⟩)
    (c20:PySem.W.codeIn K cd20 "pairs_ahead"=true)
    (k20:PySem.W.keepIn K (.ref f20)=true)
    (a21:PySem.W.nsIn K mainGlobals "numbers_of_pairs"=some (some (.ref f21)))
    (l21:K.lookup f21=some ⟨oc21,od21,.func (PySem.W.fnOf "numbers_of_pairs" "numbers_of_pairs" (defArgs s_numbers_of_pairs) (defBody s_numbers_of_pairs) (defScope s_numbers_of_pairs) .none kV21 dc21 pm21 an21 cd21 ct21),sl21⟩)
    (c21:PySem.W.codeIn K cd21 "numbers_of_pairs"=true)
    (k21:PySem.W.keepIn K (.ref f21)=true)
    (a22:PySem.W.nsIn K mainGlobals "truth_of"=some (some (.ref f22)))
    (l22:K.lookup f22=some ⟨oc22,od22,.func (PySem.W.fnOf "truth_of" "truth_of" (defArgs s_truth_of) (defBody s_truth_of) (defScope s_truth_of) .none kV22 dc22 pm22 an22 cd22 ct22),sl22⟩)
    (c22:PySem.W.codeIn K cd22 "truth_of"=true)
    (k22:PySem.W.keepIn K (.ref f22)=true)
    (a23:PySem.W.nsIn K mainGlobals "mixed"=some (some (.ref f23)))
    (l23:K.lookup f23=some ⟨oc23,od23,.func (PySem.W.fnOf "mixed" "mixed" (defArgs s_mixed) (defBody s_mixed) (defScope s_mixed) .none kV23 dc23 pm23 an23 cd23 ct23),sl23⟩)
    (c23:PySem.W.codeIn K cd23 "mixed"=true)
    (k23:PySem.W.keepIn K (.ref f23)=true)
    (a24:PySem.W.nsIn K mainGlobals "one_door_more"=some (some (.ref f24)))
    (l24:K.lookup f24=some ⟨oc24,od24,.func (PySem.W.fnOf "one_door_more" "one_door_more" (defArgs s_one_door_more) (defBody s_one_door_more) (defScope s_one_door_more) .none kV24 dc24 pm24 an24 cd24 ct24),sl24⟩)
    (c24:PySem.W.codeIn K cd24 "one_door_more"=true)
    (k24:PySem.W.keepIn K (.ref f24)=true)
    (a25:PySem.W.nsIn K mainGlobals "counts_to"=some (some (.ref f25)))
    (l25:K.lookup f25=some ⟨oc25,od25,.func (PySem.W.fnOf "counts_to" "counts_to" (defArgs s_counts_to) (defBody s_counts_to) (defScope s_counts_to) .none kV25 dc25 pm25 an25 cd25 ct25),sl25⟩)
    (c25:PySem.W.codeIn K cd25 "counts_to"=true)
    (k25:PySem.W.keepIn K (.ref f25)=true)
    (a26:PySem.W.nsIn K mainGlobals "word_at"=some (some (.ref f26)))
    (l26:K.lookup f26=some ⟨oc26,od26,.func (PySem.W.fnOf "word_at" "word_at" (defArgs s_word_at) (defBody s_word_at) (defScope s_word_at) .none kV26 dc26 pm26 an26 cd26 ct26),sl26⟩)
    (c26:PySem.W.codeIn K cd26 "word_at"=true)
    (k26:PySem.W.keepIn K (.ref f26)=true)
    (a27:PySem.W.findIn K (.ref C_Learner) "add_head"=some (some (.ref f27)))
    (i27:PySem.W.isFn K (.ref f27)=true)
    (l27:K.lookup f27=some ⟨oc27,od27,.func (PySem.W.fnOf "add_head" "Learner.add_head" (defArgs s_Learner_add_head) (defBody s_Learner_add_head) (defScope s_Learner_add_head) .none kV27 dc27 pm27 an27 cd27 ct27),sl27⟩)
    (c27:PySem.W.codeIn K cd27 "Learner.add_head"=true)
    (k27:PySem.W.keepIn K (.ref f27)=true)
    (a28:PySem.W.findIn K (.ref C_Learner) "__init__"=some (some (.ref f28)))
    (i28:PySem.W.isFn K (.ref f28)=true)
    (l28:K.lookup f28=some ⟨oc28,od28,.func (PySem.W.fnOf "__init__" "Learner.__init__" (defArgs s_Learner_init) (defBody s_Learner_init) (defScope s_Learner_init) .none kV28 dc28 pm28 an28 cd28 ct28),sl28⟩)
    (c28:PySem.W.codeIn K cd28 "Learner.__init__"=true)
    (k28:PySem.W.keepIn K (.ref f28)=true)
    (a29:PySem.W.findIn K (.ref C_Learner) "gap"=some (some (.ref f29)))
    (i29:PySem.W.isFn K (.ref f29)=true)
    (l29:K.lookup f29=some ⟨oc29,od29,.func (PySem.W.fnOf "gap" "Learner.gap" (defArgs s_Learner_gap) (defBody s_Learner_gap) (defScope s_Learner_gap) .none kV29 dc29 pm29 an29 cd29 ct29),sl29⟩)
    (c29:PySem.W.codeIn K cd29 "Learner.gap"=true)
    (k29:PySem.W.keepIn K (.ref f29)=true)
    (a30:PySem.W.findIn K (.ref C_Learner) "question"=some (some (.ref f30)))
    (i30:PySem.W.isFn K (.ref f30)=true)
    (l30:K.lookup f30=some ⟨oc30,od30,.func (PySem.W.fnOf "question" "Learner.question" (defArgs s_Learner_question) (defBody s_Learner_question) (defScope s_Learner_question) .none kV30 dc30 pm30 an30 cd30 ct30),sl30⟩)
    (c30:PySem.W.codeIn K cd30 "Learner.question"=true)
    (k30:PySem.W.keepIn K (.ref f30)=true)
    (a31:PySem.W.findIn K (.ref C_Learner) "heads_by_row"=some (some (.ref f31)))
    (i31:PySem.W.isFn K (.ref f31)=true)
    (l31:K.lookup f31=some ⟨oc31,od31,.func (PySem.W.fnOf "heads_by_row" "Learner.heads_by_row" (defArgs s_Learner_heads_by_row) (defBody s_Learner_heads_by_row) (defScope s_Learner_heads_by_row) .none kV31 dc31 pm31 an31 cd31 ct31),sl31⟩)
    (c31:PySem.W.codeIn K cd31 "Learner.heads_by_row"=true)
    (k31:PySem.W.keepIn K (.ref f31)=true)
    (a32:PySem.W.findIn K (.ref C_Learner) "unlike_edge"=some (some (.ref f32)))
    (i32:PySem.W.isFn K (.ref f32)=true)
    (l32:K.lookup f32=some ⟨oc32,od32,.func (PySem.W.fnOf "unlike_edge" "Learner.unlike_edge" (defArgs s_Learner_unlike_edge) (defBody s_Learner_unlike_edge) (defScope s_Learner_unlike_edge) .none kV32 dc32 pm32 an32 cd32 ct32),sl32⟩)
    (c32:PySem.W.codeIn K cd32 "Learner.unlike_edge"=true)
    (k32:PySem.W.keepIn K (.ref f32)=true)
    (a33:PySem.W.findIn K (.ref C_Learner) "add_unlike_edges"=some (some (.ref f33)))
    (i33:PySem.W.isFn K (.ref f33)=true)
    (l33:K.lookup f33=some ⟨oc33,od33,.func (PySem.W.fnOf "add_unlike_edges" "Learner.add_unlike_edges" (defArgs s_Learner_add_unlike_edges) (defBody s_Learner_add_unlike_edges) (defScope s_Learner_add_unlike_edges) .none kV33 dc33 pm33 an33 cd33 ct33),sl33⟩)
    (c33:PySem.W.codeIn K cd33 "Learner.add_unlike_edges"=true)
    (k33:PySem.W.keepIn K (.ref f33)=true)
    (a34:PySem.W.findIn K (.ref C_Learner) "answer"=some (some (.ref f34)))
    (i34:PySem.W.isFn K (.ref f34)=true)
    (l34:K.lookup f34=some ⟨oc34,od34,.func (PySem.W.fnOf "answer" "Learner.answer" (defArgs s_Learner_answer) (defBody s_Learner_answer) (defScope s_Learner_answer) .none kV34 dc34 pm34 an34 cd34 ct34),sl34⟩)
    (c34:PySem.W.codeIn K cd34 "Learner.answer"=true)
    (k34:PySem.W.keepIn K (.ref f34)=true)
    (a35:PySem.W.findIn K (.ref C_Learner) "guess"=some (some (.ref f35)))
    (i35:PySem.W.isFn K (.ref f35)=true)
    (l35:K.lookup f35=some ⟨oc35,od35,.func (PySem.W.fnOf "guess" "Learner.guess" (defArgs s_Learner_guess) (defBody s_Learner_guess) (defScope s_Learner_guess) .none kV35 dc35 pm35 an35 cd35 ct35),sl35⟩)
    (c35:PySem.W.codeIn K cd35 "Learner.guess"=true)
    (k35:PySem.W.keepIn K (.ref f35)=true)
    (a36:PySem.W.findIn K (.ref C_Learner) "add_tails"=some (some (.ref f36)))
    (i36:PySem.W.isFn K (.ref f36)=true)
    (l36:K.lookup f36=some ⟨oc36,od36,.func (PySem.W.fnOf "add_tails" "Learner.add_tails" (defArgs s_Learner_add_tails) (defBody s_Learner_add_tails) (defScope s_Learner_add_tails) .none kV36 dc36 pm36 an36 cd36 ct36),sl36⟩)
    (c36:PySem.W.codeIn K cd36 "Learner.add_tails"=true)
    (k36:PySem.W.keepIn K (.ref f36)=true)
    (a37:PySem.W.findIn K (.ref C_Learner) "wrong"=some (some (.ref f37)))
    (i37:PySem.W.isFn K (.ref f37)=true)
    (l37:K.lookup f37=some ⟨oc37,od37,.func (PySem.W.fnOf "wrong" "Learner.wrong" (defArgs s_Learner_wrong) (defBody s_Learner_wrong) (defScope s_Learner_wrong) .none kV37 dc37 pm37 an37 cd37 ct37),sl37⟩)
    (c37:PySem.W.codeIn K cd37 "Learner.wrong"=true)
    (k37:PySem.W.keepIn K (.ref f37)=true)
    (a38:PySem.W.nsIn K mainGlobals "written_numbers"=some (some (.ref f38)))
    (l38:K.lookup f38=some ⟨oc38,od38,.func (PySem.W.fnOf "written_numbers" "written_numbers" (defArgs s_written_numbers) (defBody s_written_numbers) (defScope s_written_numbers) .none kV38 dc38 pm38 an38 cd38 ct38),sl38⟩)
    (c38:PySem.W.codeIn K cd38 "written_numbers"=true)
    (k38:PySem.W.keepIn K (.ref f38)=true)
    (a39:PySem.W.nsIn K mainGlobals "number_of"=some (some (.ref f39)))
    (l39:K.lookup f39=some ⟨oc39,od39,.func (PySem.W.fnOf "number_of" "number_of" (defArgs s_number_of) (defBody s_number_of) (defScope s_number_of) .none kV39 dc39 pm39 an39 cd39 ct39),sl39⟩)
    (c39:PySem.W.codeIn K cd39 "number_of"=true)
    (k39:PySem.W.keepIn K (.ref f39)=true)
    (a40:PySem.W.nsIn K mainGlobals "lamp_of"=some (some (.ref f40)))
    (l40:K.lookup f40=some ⟨oc40,od40,.func (PySem.W.fnOf "lamp_of" "lamp_of" (defArgs s_lamp_of) (defBody s_lamp_of) (defScope s_lamp_of) .none kV40 dc40 pm40 an40 cd40 ct40),sl40⟩)
    (c40:PySem.W.codeIn K cd40 "lamp_of"=true)
    (k40:PySem.W.keepIn K (.ref f40)=true)
    (a41:PySem.W.nsIn K mainGlobals "doors_of"=some (some (.ref f41)))
    (l41:K.lookup f41=some ⟨oc41,od41,.func (PySem.W.fnOf "doors_of" "doors_of" (defArgs s_doors_of) (defBody s_doors_of) (defScope s_doors_of) .none kV41 dc41 pm41 an41 cd41 ct41),sl41⟩)
    (c41:PySem.W.codeIn K cd41 "doors_of"=true)
    (k41:PySem.W.keepIn K (.ref f41)=true)
    (a42:PySem.W.nsIn K mainGlobals "read"=some (some (.ref f42)))
    (l42:K.lookup f42=some ⟨oc42,od42,.func (PySem.W.fnOf "read" "read" (defArgs s_read) (defBody s_read) (defScope s_read) .none kV42 dc42 pm42 an42 cd42 ct42),sl42⟩)
    (c42:PySem.W.codeIn K cd42 "read"=true)
    (k42:PySem.W.keepIn K (.ref f42)=true)
    (a43:PySem.W.nsIn K mainGlobals "_law_cell_at"=some (some (.ref f43)))
    (l43:K.lookup f43=some ⟨oc43,od43,.func (PySem.W.fnOf "_law_cell_at" "_law_cell_at" (defArgs s_l_cell_at) (defBody s_l_cell_at) (defScope s_l_cell_at) .none kV43 dc43 pm43 an43 cd43 ct43),sl43⟩)
    (c43:PySem.W.codeIn K cd43 "_law_cell_at"=true)
    (k43:PySem.W.keepIn K (.ref f43)=true)
    (a44:PySem.W.nsIn K mainGlobals "_law_ring"=some (some (.ref f44)))
    (l44:K.lookup f44=some ⟨oc44,od44,.func (PySem.W.fnOf "_law_ring" "_law_ring" (defArgs s_l_ring) (defBody s_l_ring) (defScope s_l_ring) .none kV44 dc44 pm44 an44 cd44 ct44),sl44⟩)
    (c44:PySem.W.codeIn K cd44 "_law_ring"=true)
    (k44:PySem.W.keepIn K (.ref f44)=true)
    (a45:PySem.W.nsIn K mainGlobals "_law_taught"=some (some (.ref f45)))
    (l45:K.lookup f45=some ⟨oc45,od45,.func (PySem.W.fnOf "_law_taught" "_law_taught" (defArgs s_l_taught) (defBody s_l_taught) (defScope s_l_taught) .none kV45 dc45 pm45 an45 cd45 ct45),sl45⟩)
    (c45:PySem.W.codeIn K cd45 "_law_taught"=true)
    (k45:PySem.W.keepIn K (.ref f45)=true)
    (a46:PySem.W.nsIn K mainGlobals "_law_do"=some (some (.ref f46)))
    (l46:K.lookup f46=some ⟨oc46,od46,.func (PySem.W.fnOf "_law_do" "_law_do" (defArgs s_l_do) (defBody s_l_do) (defScope s_l_do) .none kV46 dc46 pm46 an46 cd46 ct46),sl46⟩)
    (c46:PySem.W.codeIn K cd46 "_law_do"=true)
    (k46:PySem.W.keepIn K (.ref f46)=true)
    (a47:PySem.W.nsIn K mainGlobals "_law_marks"=some (some (.ref f47)))
    (l47:K.lookup f47=some ⟨oc47,od47,.func (PySem.W.fnOf "_law_marks" "_law_marks" (defArgs s_l_marks) (defBody s_l_marks) (defScope s_l_marks) .none kV47 dc47 pm47 an47 cd47 ct47),sl47⟩)
    (c47:PySem.W.codeIn K cd47 "_law_marks"=true)
    (k47:PySem.W.keepIn K (.ref f47)=true)
    (a48:PySem.W.nsIn K mainGlobals "law"=some (some (.ref f48)))
    (l48:K.lookup f48=some ⟨oc48,od48,.func (PySem.W.fnOf "law" "law" (defArgs s_law) (defBody s_law) (defScope s_law) .none kV48 dc48 pm48 an48 cd48 ct48),sl48⟩)
    (c48:PySem.W.codeIn K cd48 "law"=true)
    (k48:PySem.W.keepIn K (.ref f48)=true)
   :∃ t,Txt K mg t :=
  ⟨{ C_House:=C_House,C_Book:=C_Book,C_Learner:=C_Learner,C_HouseError:=C_HouseError,C_BadHouse:=C_BadHouse,C_BadWord:=C_BadWord,C_NoRoom:=C_NoRoom,C_OtherDoors:=C_OtherDoors,C_TooGreat:=C_TooGreat,C_NoSuch:=C_NoSuch,C_SaidOtherwise:=C_SaidOtherwise,C_NotAsked:=C_NotAsked,C_NotYet:=C_NotYet,C_NotWrong:=C_NotWrong,C_BadText:=C_BadText,f_check_doors:=f0,fd_check_doors:=PySem.W.fnOf "check_doors" "check_doors" (defArgs s_check_doors) (defBody s_check_doors) (defScope s_check_doors) .none kV0 dc0 pm0 an0 cd0 ct0,f_check_house:=f1,fd_check_house:=PySem.W.fnOf "check_house" "check_house" (defArgs s_check_house) (defBody s_check_house) (defScope s_check_house) .none kV1 dc1 pm1 an1 cd1 ct1,f_check_word:=f2,fd_check_word:=PySem.W.fnOf "check_word" "check_word" (defArgs s_check_word) (defBody s_check_word) (defScope s_check_word) .none kV2 dc2 pm2 an2 cd2 ct2,f_House_init:=f3,fd_House_init:=PySem.W.fnOf "__init__" "House.__init__" (defArgs s_House_init) (defBody s_House_init) (defScope s_House_init) .none kV3 dc3 pm3 an3 cd3 ct3,f_House_rooms:=f4,fd_House_rooms:=PySem.W.fnOf "rooms" "House.rooms" (defArgs s_House_rooms) (defBody s_House_rooms) (defScope s_House_rooms) .none kV4 dc4 pm4 an4 cd4 ct4,f_House_trail:=f5,fd_House_trail:=PySem.W.fnOf "trail" "House.trail" (defArgs s_House_trail) (defBody s_House_trail) (defScope s_House_trail) .none kV5 dc5 pm5 an5 cd5 ct5,f_House_room_of:=f6,fd_House_room_of:=PySem.W.fnOf "room_of" "House.room_of" (defArgs s_House_room_of) (defBody s_House_room_of) (defScope s_House_room_of) .none kV6 dc6 pm6 an6 cd6 ct6,f_House_says:=f7,fd_House_says:=PySem.W.fnOf "says" "House.says" (defArgs s_House_says) (defBody s_House_says) (defScope s_House_says) .none kV7 dc7 pm7 an7 cd7 ct7,f_Book_init:=f8,fd_Book_init:=PySem.W.fnOf "__init__" "Book.__init__" (defArgs s_Book_init) (defBody s_Book_init) (defScope s_Book_init) .none kV8 dc8 pm8 an8 cd8 ct8,f_Book_said:=f9,fd_Book_said:=PySem.W.fnOf "said" "Book.said" (defArgs s_Book_said) (defBody s_Book_said) (defScope s_Book_said) .none kV9 dc9 pm9 an9 cd9 ct9,f_Book_check_note:=f10,fd_Book_check_note:=PySem.W.fnOf "check_note" "Book.check_note" (defArgs s_Book_check_note) (defBody s_Book_check_note) (defScope s_Book_check_note) .none kV10 dc10 pm10 an10 cd10 ct10,f_Book_note:=f11,fd_Book_note:=PySem.W.fnOf "note" "Book.note" (defArgs s_Book_note) (defBody s_Book_note) (defScope s_Book_note) .none kV11 dc11 pm11 an11 cd11 ct11,f_leader:=f12,fd_leader:=PySem.W.fnOf "leader" "leader" (defArgs s_leader) (defBody s_leader) (defScope s_leader) .none kV12 dc12 pm12 an12 cd12 ct12,f_newly_linked:=f13,fd_newly_linked:=PySem.W.fnOf "newly_linked" "newly_linked" (defArgs s_newly_linked) (defBody s_newly_linked) (defScope s_newly_linked) .none kV13 dc13 pm13 an13 cd13 ct13,f_pairs_behind:=f14,fd_pairs_behind:=PySem.W.fnOf "pairs_behind" "pairs_behind" (defArgs s_pairs_behind) (defBody s_pairs_behind) (defScope s_pairs_behind) .none kV14 dc14 pm14 an14 cd14 ct14,f_parting_word:=f15,fd_parting_word:=PySem.W.fnOf "parting_word" "parting_word" (defArgs s_parting_word) (defBody s_parting_word) (defScope s_parting_word) .none kV15 dc15 pm15 an15 cd15 ct15,f_check_room:=f16,fd_check_room:=PySem.W.fnOf "check_room" "check_room" (defArgs s_check_room) (defBody s_check_room) (defScope s_check_room) .none kV16 dc16 pm16 an16 cd16 ct16,f_apart:=f17,fd_apart:=PySem.W.fnOf "apart" "apart" (defArgs s_apart) (defBody s_apart) (defScope s_apart) .none kV17 dc17 pm17 an17 cd17 ct17,f_check_same_doors:=f18,fd_check_same_doors:=PySem.W.fnOf "check_same_doors" "check_same_doors" (defArgs s_check_same_doors) (defBody s_check_same_doors) (defScope s_check_same_doors) .none kV18 dc18 pm18 an18 cd18 ct18,f_difference:=f19,fd_difference:=PySem.W.fnOf "difference" "difference" (defArgs s_difference) (defBody s_difference) (defScope s_difference) .none kV19 dc19 pm19 an19 cd19 ct19,f_pairs_ahead:=f20,fd_pairs_ahead:=PySem.W.fnOf "pairs_ahead" "pairs_ahead" (defArgs s_pairs_ahead) (defBody s_pairs_ahead) (defScope s_pairs_ahead) .none kV20 dc20 pm20 an20 cd20 ct20,f_numbers_of_pairs:=f21,fd_numbers_of_pairs:=PySem.W.fnOf "numbers_of_pairs" "numbers_of_pairs" (defArgs s_numbers_of_pairs) (defBody s_numbers_of_pairs) (defScope s_numbers_of_pairs) .none kV21 dc21 pm21 an21 cd21 ct21,f_truth_of:=f22,fd_truth_of:=PySem.W.fnOf "truth_of" "truth_of" (defArgs s_truth_of) (defBody s_truth_of) (defScope s_truth_of) .none kV22 dc22 pm22 an22 cd22 ct22,f_mixed:=f23,fd_mixed:=PySem.W.fnOf "mixed" "mixed" (defArgs s_mixed) (defBody s_mixed) (defScope s_mixed) .none kV23 dc23 pm23 an23 cd23 ct23,f_one_door_more:=f24,fd_one_door_more:=PySem.W.fnOf "one_door_more" "one_door_more" (defArgs s_one_door_more) (defBody s_one_door_more) (defScope s_one_door_more) .none kV24 dc24 pm24 an24 cd24 ct24,f_counts_to:=f25,fd_counts_to:=PySem.W.fnOf "counts_to" "counts_to" (defArgs s_counts_to) (defBody s_counts_to) (defScope s_counts_to) .none kV25 dc25 pm25 an25 cd25 ct25,f_word_at:=f26,fd_word_at:=PySem.W.fnOf "word_at" "word_at" (defArgs s_word_at) (defBody s_word_at) (defScope s_word_at) .none kV26 dc26 pm26 an26 cd26 ct26,f_Learner_add_head:=f27,fd_Learner_add_head:=PySem.W.fnOf "add_head" "Learner.add_head" (defArgs s_Learner_add_head) (defBody s_Learner_add_head) (defScope s_Learner_add_head) .none kV27 dc27 pm27 an27 cd27 ct27,f_Learner_init:=f28,fd_Learner_init:=PySem.W.fnOf "__init__" "Learner.__init__" (defArgs s_Learner_init) (defBody s_Learner_init) (defScope s_Learner_init) .none kV28 dc28 pm28 an28 cd28 ct28,f_Learner_gap:=f29,fd_Learner_gap:=PySem.W.fnOf "gap" "Learner.gap" (defArgs s_Learner_gap) (defBody s_Learner_gap) (defScope s_Learner_gap) .none kV29 dc29 pm29 an29 cd29 ct29,f_Learner_question:=f30,fd_Learner_question:=PySem.W.fnOf "question" "Learner.question" (defArgs s_Learner_question) (defBody s_Learner_question) (defScope s_Learner_question) .none kV30 dc30 pm30 an30 cd30 ct30,f_Learner_heads_by_row:=f31,fd_Learner_heads_by_row:=PySem.W.fnOf "heads_by_row" "Learner.heads_by_row" (defArgs s_Learner_heads_by_row) (defBody s_Learner_heads_by_row) (defScope s_Learner_heads_by_row) .none kV31 dc31 pm31 an31 cd31 ct31,f_Learner_unlike_edge:=f32,fd_Learner_unlike_edge:=PySem.W.fnOf "unlike_edge" "Learner.unlike_edge" (defArgs s_Learner_unlike_edge) (defBody s_Learner_unlike_edge) (defScope s_Learner_unlike_edge) .none kV32 dc32 pm32 an32 cd32 ct32,f_Learner_add_unlike_edges:=f33,fd_Learner_add_unlike_edges:=PySem.W.fnOf "add_unlike_edges" "Learner.add_unlike_edges" (defArgs s_Learner_add_unlike_edges) (defBody s_Learner_add_unlike_edges) (defScope s_Learner_add_unlike_edges) .none kV33 dc33 pm33 an33 cd33 ct33,f_Learner_answer:=f34,fd_Learner_answer:=PySem.W.fnOf "answer" "Learner.answer" (defArgs s_Learner_answer) (defBody s_Learner_answer) (defScope s_Learner_answer) .none kV34 dc34 pm34 an34 cd34 ct34,f_Learner_guess:=f35,fd_Learner_guess:=PySem.W.fnOf "guess" "Learner.guess" (defArgs s_Learner_guess) (defBody s_Learner_guess) (defScope s_Learner_guess) .none kV35 dc35 pm35 an35 cd35 ct35,f_Learner_add_tails:=f36,fd_Learner_add_tails:=PySem.W.fnOf "add_tails" "Learner.add_tails" (defArgs s_Learner_add_tails) (defBody s_Learner_add_tails) (defScope s_Learner_add_tails) .none kV36 dc36 pm36 an36 cd36 ct36,f_Learner_wrong:=f37,fd_Learner_wrong:=PySem.W.fnOf "wrong" "Learner.wrong" (defArgs s_Learner_wrong) (defBody s_Learner_wrong) (defScope s_Learner_wrong) .none kV37 dc37 pm37 an37 cd37 ct37,f_written_numbers:=f38,fd_written_numbers:=PySem.W.fnOf "written_numbers" "written_numbers" (defArgs s_written_numbers) (defBody s_written_numbers) (defScope s_written_numbers) .none kV38 dc38 pm38 an38 cd38 ct38,f_number_of:=f39,fd_number_of:=PySem.W.fnOf "number_of" "number_of" (defArgs s_number_of) (defBody s_number_of) (defScope s_number_of) .none kV39 dc39 pm39 an39 cd39 ct39,f_lamp_of:=f40,fd_lamp_of:=PySem.W.fnOf "lamp_of" "lamp_of" (defArgs s_lamp_of) (defBody s_lamp_of) (defScope s_lamp_of) .none kV40 dc40 pm40 an40 cd40 ct40,f_doors_of:=f41,fd_doors_of:=PySem.W.fnOf "doors_of" "doors_of" (defArgs s_doors_of) (defBody s_doors_of) (defScope s_doors_of) .none kV41 dc41 pm41 an41 cd41 ct41,f_read:=f42,fd_read:=PySem.W.fnOf "read" "read" (defArgs s_read) (defBody s_read) (defScope s_read) .none kV42 dc42 pm42 an42 cd42 ct42,f_l_cell_at:=f43,fd_l_cell_at:=PySem.W.fnOf "_law_cell_at" "_law_cell_at" (defArgs s_l_cell_at) (defBody s_l_cell_at) (defScope s_l_cell_at) .none kV43 dc43 pm43 an43 cd43 ct43,f_l_ring:=f44,fd_l_ring:=PySem.W.fnOf "_law_ring" "_law_ring" (defArgs s_l_ring) (defBody s_l_ring) (defScope s_l_ring) .none kV44 dc44 pm44 an44 cd44 ct44,f_l_taught:=f45,fd_l_taught:=PySem.W.fnOf "_law_taught" "_law_taught" (defArgs s_l_taught) (defBody s_l_taught) (defScope s_l_taught) .none kV45 dc45 pm45 an45 cd45 ct45,f_l_do:=f46,fd_l_do:=PySem.W.fnOf "_law_do" "_law_do" (defArgs s_l_do) (defBody s_l_do) (defScope s_l_do) .none kV46 dc46 pm46 an46 cd46 ct46,f_l_marks:=f47,fd_l_marks:=PySem.W.fnOf "_law_marks" "_law_marks" (defArgs s_l_marks) (defBody s_l_marks) (defScope s_l_marks) .none kV47 dc47 pm47 an47 cd47 ct47,f_law:=f48,fd_law:=PySem.W.fnOf "law" "law" (defArgs s_law) (defBody s_law) (defScope s_law) .none kV48 dc48 pm48 an48 cd48 ct48 },
   ⟨PySem.W.mg_none_of X G z_len,PySem.W.mg_none_of X G z_range,PySem.W.mg_none_of X G z_isinstance,PySem.W.mg_none_of X G z_list,PySem.W.mg_none_of X G z_enumerate,PySem.W.mg_none_of X G z_tuple,PySem.W.mg_none_of X G z_str,PySem.W.mg_none_of X G z_ValueError,PySem.W.mg_none_of X G z_sum,PySem.W.mg_none_of X G z_zip,⟨_,PySem.W.mg_of X G c_MOST_DOORS⟩,⟨_,PySem.W.mg_of X G c_MOST_ROOMS⟩,⟨_,PySem.W.mg_of X G c_HEADING⟩,PySem.W.mg_of X G a_House,⟨pg_House,hd_House,po_House,sa_House⟩,tc_House,tm_House,n_House_doors,n_House_ways,n_House_lamps,PySem.W.mg_of X G a_Book,⟨pg_Book,hd_Book,po_Book,sa_Book⟩,tc_Book,tm_Book,n_Book_doors,n_Book_noted,PySem.W.mg_of X G a_Learner,⟨pg_Learner,hd_Learner,po_Learner,sa_Learner⟩,tc_Learner,tm_Learner,n_Learner_book,n_Learner_doors,n_Learner_heads,n_Learner_tails,n_Learner_lines,n_Learner_rows,n_Learner_filled,PySem.W.mg_of X G a_HouseError,⟨⟨a_HouseError,x_HouseError⟩,g1_HouseError,g2_HouseError,g3_HouseError,g4_HouseError⟩,g4_HouseError,ty_HouseError,mv_HouseError,ms_HouseError,PySem.W.mg_of X G a_BadHouse,⟨⟨a_BadHouse,x_BadHouse⟩,g1_BadHouse,g2_BadHouse,g3_BadHouse,g4_BadHouse⟩,g4_BadHouse,ty_BadHouse,mv_BadHouse,ms_BadHouse,PySem.W.mg_of X G a_BadWord,⟨⟨a_BadWord,x_BadWord⟩,g1_BadWord,g2_BadWord,g3_BadWord,g4_BadWord⟩,g4_BadWord,ty_BadWord,mv_BadWord,ms_BadWord,PySem.W.mg_of X G a_NoRoom,⟨⟨a_NoRoom,x_NoRoom⟩,g1_NoRoom,g2_NoRoom,g3_NoRoom,g4_NoRoom⟩,g4_NoRoom,ty_NoRoom,mv_NoRoom,ms_NoRoom,PySem.W.mg_of X G a_OtherDoors,⟨⟨a_OtherDoors,x_OtherDoors⟩,g1_OtherDoors,g2_OtherDoors,g3_OtherDoors,g4_OtherDoors⟩,g4_OtherDoors,ty_OtherDoors,mv_OtherDoors,ms_OtherDoors,PySem.W.mg_of X G a_TooGreat,⟨⟨a_TooGreat,x_TooGreat⟩,g1_TooGreat,g2_TooGreat,g3_TooGreat,g4_TooGreat⟩,g4_TooGreat,ty_TooGreat,mv_TooGreat,ms_TooGreat,PySem.W.mg_of X G a_NoSuch,⟨⟨a_NoSuch,x_NoSuch⟩,g1_NoSuch,g2_NoSuch,g3_NoSuch,g4_NoSuch⟩,g4_NoSuch,ty_NoSuch,mv_NoSuch,ms_NoSuch,PySem.W.mg_of X G a_SaidOtherwise,⟨⟨a_SaidOtherwise,x_SaidOtherwise⟩,g1_SaidOtherwise,g2_SaidOtherwise,g3_SaidOtherwise,g4_SaidOtherwise⟩,g4_SaidOtherwise,ty_SaidOtherwise,mv_SaidOtherwise,ms_SaidOtherwise,PySem.W.mg_of X G a_NotAsked,⟨⟨a_NotAsked,x_NotAsked⟩,g1_NotAsked,g2_NotAsked,g3_NotAsked,g4_NotAsked⟩,g4_NotAsked,ty_NotAsked,mv_NotAsked,ms_NotAsked,PySem.W.mg_of X G a_NotYet,⟨⟨a_NotYet,x_NotYet⟩,g1_NotYet,g2_NotYet,g3_NotYet,g4_NotYet⟩,g4_NotYet,ty_NotYet,mv_NotYet,ms_NotYet,PySem.W.mg_of X G a_NotWrong,⟨⟨a_NotWrong,x_NotWrong⟩,g1_NotWrong,g2_NotWrong,g3_NotWrong,g4_NotWrong⟩,g4_NotWrong,ty_NotWrong,mv_NotWrong,ms_NotWrong,PySem.W.mg_of X G a_BadText,⟨⟨a_BadText,x_BadText⟩,g1_BadText,g2_BadText,g3_BadText,g4_BadText⟩,g4_BadText,ty_BadText,mv_BadText,ms_BadText,mb_HouseError,mb_BadHouse,mb_BadWord,mb_NoRoom,mb_OtherDoors,mb_TooGreat,mb_NoSuch,mb_SaidOtherwise,mb_NotAsked,mb_NotYet,mb_NotWrong,mb_BadText,mr_BadHouse_HouseError,mr_BadHouse_BadWord,mr_BadHouse_NoRoom,mr_BadHouse_OtherDoors,mr_BadHouse_TooGreat,mr_BadHouse_NoSuch,mr_BadHouse_SaidOtherwise,mr_BadHouse_NotAsked,mr_BadHouse_NotYet,mr_BadHouse_NotWrong,mr_BadHouse_BadText,mr_BadWord_HouseError,mr_BadWord_BadHouse,mr_BadWord_NoRoom,mr_BadWord_OtherDoors,mr_BadWord_TooGreat,mr_BadWord_NoSuch,mr_BadWord_SaidOtherwise,mr_BadWord_NotAsked,mr_BadWord_NotYet,mr_BadWord_NotWrong,mr_BadWord_BadText,mr_NoRoom_HouseError,mr_NoRoom_BadHouse,mr_NoRoom_BadWord,mr_NoRoom_OtherDoors,mr_NoRoom_TooGreat,mr_NoRoom_NoSuch,mr_NoRoom_SaidOtherwise,mr_NoRoom_NotAsked,mr_NoRoom_NotYet,mr_NoRoom_NotWrong,mr_NoRoom_BadText,mr_OtherDoors_HouseError,mr_OtherDoors_BadHouse,mr_OtherDoors_BadWord,mr_OtherDoors_NoRoom,mr_OtherDoors_TooGreat,mr_OtherDoors_NoSuch,mr_OtherDoors_SaidOtherwise,mr_OtherDoors_NotAsked,mr_OtherDoors_NotYet,mr_OtherDoors_NotWrong,mr_OtherDoors_BadText,mr_TooGreat_HouseError,mr_TooGreat_BadHouse,mr_TooGreat_BadWord,mr_TooGreat_NoRoom,mr_TooGreat_OtherDoors,mr_TooGreat_NoSuch,mr_TooGreat_SaidOtherwise,mr_TooGreat_NotAsked,mr_TooGreat_NotYet,mr_TooGreat_NotWrong,mr_TooGreat_BadText,mr_NoSuch_HouseError,mr_NoSuch_BadHouse,mr_NoSuch_BadWord,mr_NoSuch_NoRoom,mr_NoSuch_OtherDoors,mr_NoSuch_TooGreat,mr_NoSuch_SaidOtherwise,mr_NoSuch_NotAsked,mr_NoSuch_NotYet,mr_NoSuch_NotWrong,mr_NoSuch_BadText,mr_SaidOtherwise_HouseError,mr_SaidOtherwise_BadHouse,mr_SaidOtherwise_BadWord,mr_SaidOtherwise_NoRoom,mr_SaidOtherwise_OtherDoors,mr_SaidOtherwise_TooGreat,mr_SaidOtherwise_NoSuch,mr_SaidOtherwise_NotAsked,mr_SaidOtherwise_NotYet,mr_SaidOtherwise_NotWrong,mr_SaidOtherwise_BadText,mr_NotAsked_HouseError,mr_NotAsked_BadHouse,mr_NotAsked_BadWord,mr_NotAsked_NoRoom,mr_NotAsked_OtherDoors,mr_NotAsked_TooGreat,mr_NotAsked_NoSuch,mr_NotAsked_SaidOtherwise,mr_NotAsked_NotYet,mr_NotAsked_NotWrong,mr_NotAsked_BadText,mr_NotYet_HouseError,mr_NotYet_BadHouse,mr_NotYet_BadWord,mr_NotYet_NoRoom,mr_NotYet_OtherDoors,mr_NotYet_TooGreat,mr_NotYet_NoSuch,mr_NotYet_SaidOtherwise,mr_NotYet_NotAsked,mr_NotYet_NotWrong,mr_NotYet_BadText,mr_NotWrong_HouseError,mr_NotWrong_BadHouse,mr_NotWrong_BadWord,mr_NotWrong_NoRoom,mr_NotWrong_OtherDoors,mr_NotWrong_TooGreat,mr_NotWrong_NoSuch,mr_NotWrong_SaidOtherwise,mr_NotWrong_NotAsked,mr_NotWrong_NotYet,mr_NotWrong_BadText,mr_BadText_HouseError,mr_BadText_BadHouse,mr_BadText_BadWord,mr_BadText_NoRoom,mr_BadText_OtherDoors,mr_BadText_TooGreat,mr_BadText_NoSuch,mr_BadText_SaidOtherwise,mr_BadText_NotAsked,mr_BadText_NotYet,mr_BadText_NotWrong,tg,tt,PySem.W.mg_of X G a0,fun_mk (st:=s_check_doors) l0 c0 k0,PySem.W.mg_of X G a1,fun_mk (st:=s_check_house) l1 c1 k1,PySem.W.mg_of X G a2,fun_mk (st:=s_check_word) l2 c2 k2,fun_mk (st:=s_House_init) l3 c3 k3,⟨mk_House,a3,i3,kc_House⟩,fun_mk (st:=s_House_rooms) l4 c4 k4,⟨a4,i4,k4⟩,fun_mk (st:=s_House_trail) l5 c5 k5,⟨a5,i5,k5⟩,fun_mk (st:=s_House_room_of) l6 c6 k6,⟨a6,i6,k6⟩,fun_mk (st:=s_House_says) l7 c7 k7,⟨a7,i7,k7⟩,fun_mk (st:=s_Book_init) l8 c8 k8,⟨mk_Book,a8,i8,kc_Book⟩,fun_mk (st:=s_Book_said) l9 c9 k9,⟨a9,i9,k9⟩,fun_mk (st:=s_Book_check_note) l10 c10 k10,⟨a10,i10,k10⟩,fun_mk (st:=s_Book_note) l11 c11 k11,⟨a11,i11,k11⟩,PySem.W.mg_of X G a12,fun_mk (st:=s_leader) l12 c12 k12,PySem.W.mg_of X G a13,fun_mk (st:=s_newly_linked) l13 c13 k13,PySem.W.mg_of X G a14,fun_mk (st:=s_pairs_behind) l14 c14 k14,PySem.W.mg_of X G a15,fun_mk (st:=s_parting_word) l15 c15 k15,PySem.W.mg_of X G a16,fun_mk (st:=s_check_room) l16 c16 k16,PySem.W.mg_of X G a17,fun_mk (st:=s_apart) l17 c17 k17,PySem.W.mg_of X G a18,fun_mk (st:=s_check_same_doors) l18 c18 k18,PySem.W.mg_of X G a19,fun_mk (st:=s_difference) l19 c19 k19,PySem.W.mg_of X G a20,fun_mk (st:=s_pairs_ahead) l20 c20 k20,PySem.W.mg_of X G a21,fun_mk (st:=s_numbers_of_pairs) l21 c21 k21,PySem.W.mg_of X G a22,fun_mk (st:=s_truth_of) l22 c22 k22,PySem.W.mg_of X G a23,fun_mk (st:=s_mixed) l23 c23 k23,PySem.W.mg_of X G a24,fun_mk (st:=s_one_door_more) l24 c24 k24,PySem.W.mg_of X G a25,fun_mk (st:=s_counts_to) l25 c25 k25,PySem.W.mg_of X G a26,fun_mk (st:=s_word_at) l26 c26 k26,fun_mk (st:=s_Learner_add_head) l27 c27 k27,⟨a27,i27,k27⟩,fun_mk (st:=s_Learner_init) l28 c28 k28,⟨mk_Learner,a28,i28,kc_Learner⟩,fun_mk (st:=s_Learner_gap) l29 c29 k29,⟨a29,i29,k29⟩,fun_mk (st:=s_Learner_question) l30 c30 k30,⟨a30,i30,k30⟩,fun_mk (st:=s_Learner_heads_by_row) l31 c31 k31,⟨a31,i31,k31⟩,fun_mk (st:=s_Learner_unlike_edge) l32 c32 k32,⟨a32,i32,k32⟩,fun_mk (st:=s_Learner_add_unlike_edges) l33 c33 k33,⟨a33,i33,k33⟩,fun_mk (st:=s_Learner_answer) l34 c34 k34,⟨a34,i34,k34⟩,fun_mk (st:=s_Learner_guess) l35 c35 k35,⟨a35,i35,k35⟩,fun_mk (st:=s_Learner_add_tails) l36 c36 k36,⟨a36,i36,k36⟩,fun_mk (st:=s_Learner_wrong) l37 c37 k37,⟨a37,i37,k37⟩,PySem.W.mg_of X G a38,fun_mk (st:=s_written_numbers) l38 c38 k38,PySem.W.mg_of X G a39,fun_mk (st:=s_number_of) l39 c39 k39,PySem.W.mg_of X G a40,fun_mk (st:=s_lamp_of) l40 c40 k40,PySem.W.mg_of X G a41,fun_mk (st:=s_doors_of) l41 c41 k41,PySem.W.mg_of X G a42,fun_mk (st:=s_read) l42 c42 k42,PySem.W.mg_of X G a43,fun_mk (st:=s_l_cell_at) l43 c43 k43,PySem.W.mg_of X G a44,fun_mk (st:=s_l_ring) l44 c44 k44,PySem.W.mg_of X G a45,fun_mk (st:=s_l_taught) l45 c45 k45,PySem.W.mg_of X G a46,fun_mk (st:=s_l_do) l46 c46 k46,PySem.W.mg_of X G a47,fun_mk (st:=s_l_marks) l47 c47 k47,PySem.W.mg_of X G a48,fun_mk (st:=s_law) l48 c48 k48⟩⟩
end My
open PySem PySem.W PyProof.Rows
def _root_.PySem.W.Fast.tw4087962279969286061:Unit:=()
def _root_.PySem.W.Fast.tw11434816022916515629:Unit:=()
def _root_.PySem.W.Fast.tw11070854515297100524:Unit:=()
def _root_.PySem.W.Fast.tw3013264291512410067:Unit:=()
def _root_.PySem.W.Fast.tw13095647322541348590:Unit:=()
def _root_.PySem.W.Fast.tw13163305566987511348:Unit:=()
def _root_.PySem.W.Fast.tw7193418191005762742:Unit:=()
def _root_.PySem.W.Fast.tw6283721996208416121:Unit:=()
def _root_.PySem.W.Fast.tw16986523460368620611:Unit:=()
def _root_.PySem.W.Fast.tw13570733973021350872:Unit:=()
def _root_.PySem.W.Fast.tw1953660052101933121:Unit:=()
def _root_.PySem.W.Fast.tw13310944383132239020:Unit:=()
def _root_.PySem.W.Fast.tw8231849264545787704:Unit:=()
def _root_.PySem.W.Fast.tw6780854262812167999:Unit:=()
def _root_.PySem.W.Fast.tw12742644348224493646:Unit:=()
def _root_.PySem.W.Fast.tw5623572447523629412:Unit:=()
def _root_.PySem.W.Fast.tw11320030563352536063:Unit:=()
def _root_.PySem.W.Fast.tw4610456890703274358:Unit:=()
def _root_.PySem.W.Fast.tw15612290980038264749:Unit:=()
def _root_.PySem.W.Fast.tw18005945762580875782:Unit:=()
def _root_.PySem.W.Fast.tw9958022082850261196:Unit:=()
def _root_.PySem.W.Fast.tw15080257152912988884:Unit:=()
def _root_.PySem.W.Fast.tw6728008213002613411:Unit:=()
def _root_.PySem.W.Fast.tw4624962773451099513:Unit:=()
def _root_.PySem.W.Fast.tw3889353869360845546:Unit:=()
def _root_.PySem.W.Fast.tw16096226833378406209:Unit:=()
def _root_.PySem.W.Fast.tw2444289701075179622:Unit:=()
def _root_.PySem.W.Fast.tw14342198848640558444:Unit:=()
def _root_.PySem.W.Fast.tw15819246490035825690:Unit:=()
def _root_.PySem.W.Fast.tw16833432508033379172:Unit:=()
def _root_.PySem.W.Fast.tw15447239218941918150:Unit:=()
def _root_.PySem.W.Fast.tw3349607326005927062:Unit:=()
def _root_.PySem.W.Fast.tw11664572443127753608:Unit:=()
def _root_.PySem.W.Fast.tw6190102359869674226:Unit:=()
def _root_.PySem.W.Fast.tw3238355557929012805:Unit:=()
def _root_.PySem.W.Fast.tw12656491725560110142:Unit:=()
def _root_.PySem.W.Fast.tw3584488697211875296:Unit:=()
def _root_.PySem.W.Fast.tw9656343083959652913:Unit:=()
def _root_.PySem.W.Fast.tw2257548190549855270:Unit:=()
def _root_.PySem.W.Fast.tw470496849062009169:Unit:=()
def _root_.PySem.W.Fast.tw14960633536963124940:Unit:=()
def _root_.PySem.W.Fast.tw1384166945986266824:Unit:=()
def _root_.PySem.W.Fast.tw15946736254879456105:Unit:=()
def _root_.PySem.W.Fast.tw15324059415598692405:Unit:=()
def _root_.PySem.W.Fast.tw13468042534397117175:Unit:=()
def _root_.PySem.W.Fast.tw1076634037562190099:Unit:=()
def _root_.PySem.W.Fast.tw5629926162459192980:Unit:=()
def _root_.PySem.W.Fast.tw1239585571353039844:Unit:=()
def _root_.PySem.W.Fast.tw2371696211497576117:Unit:=()
def _root_.PySem.W.Fast.tw17768384819665409480:Unit:=()
def _root_.PySem.W.Fast.tw3205001248158809341:Unit:=()
def _root_.PySem.W.Fast.tw9541511309545433288:Unit:=()
def _root_.PySem.W.Fast.tw13308074774245866418:Unit:=()
def _root_.PySem.W.Fast.tw9559970790739828481:Unit:=()
def _root_.PySem.W.Fast.tw5163792751020502996:Unit:=()
def _root_.PySem.W.Fast.tw13936990077917895408:Unit:=()
def _root_.PySem.W.Fast.tw5707471114825799187:Unit:=()
def _root_.PySem.W.Fast.tw314243074988206369:Unit:=()
def _root_.PySem.W.Fast.tw1585244335962926430:Unit:=()
def _root_.PySem.W.Fast.tw12903962322394240276:Unit:=()
def _root_.PySem.W.Fast.tw17946045206275332106:Unit:=()
def _root_.PySem.W.Fast.tw17565680407774191466:Unit:=()
def _root_.PySem.W.Fast.tw15076928954295005249:Unit:=()
def _root_.PySem.W.Fast.tw14136822611416093198:Unit:=()
def _root_.PySem.W.Fast.tw10908942239063759845:Unit:=()
def _root_.PySem.W.Fast.tw4897954233150299005:Unit:=()
def _root_.PySem.W.Fast.tw1582762957931841281:Unit:=()
def _root_.PySem.W.Fast.tw8028904215768033152:Unit:=()
def _root_.PySem.W.Fast.tw11495815150165279276:Unit:=()
def _root_.PySem.W.Fast.tw17225597773210372115:Unit:=()
def _root_.PySem.W.Fast.tw7032140257212081558:Unit:=()
def _root_.PySem.W.Fast.tw10084224492760068572:Unit:=()
def _root_.PySem.W.Fast.tw10190504221981072506:Unit:=()
def _root_.PySem.W.Fast.tw17627849686967963319:Unit:=()
def _root_.PySem.W.Fast.tw3734265321264629673:Unit:=()
def _root_.PySem.W.Fast.tw4854913491917597416:Unit:=()
def _root_.PySem.W.Fast.tw13988524206096188068:Unit:=()
def _root_.PySem.W.Fast.tw7979414242678267338:Unit:=()
def _root_.PySem.W.Fast.tw18029673458705299815:Unit:=()
def _root_.PySem.W.Fast.tw14468319844282533628:Unit:=()
def _root_.PySem.W.Fast.tw14083448781066662919:Unit:=()
def _root_.PySem.W.Fast.tw5627677542728246300:Unit:=()
def _root_.PySem.W.Fast.tw17474812037858796596:Unit:=()
def _root_.PySem.W.Fast.tw10359673716561583831:Unit:=()
def _root_.PySem.W.Fast.tw17830125823669274710:Unit:=()
def _root_.PySem.W.Fast.tw71387514049675693:Unit:=()
def _root_.PySem.W.Fast.tw12278814334966135315:Unit:=()
def _root_.PySem.W.Fast.tw8577885101957384379:Unit:=()
def _root_.PySem.W.Fast.tw1715239959908806838:Unit:=()
def _root_.PySem.W.Fast.tw18302002084382563313:Unit:=()
def _root_.PySem.W.Fast.tw5763105021105838890:Unit:=()
def _root_.PySem.W.Fast.tw2276727808353833037:Unit:=()
def _root_.PySem.W.Fast.tw10934694850933622672:Unit:=()
def _root_.PySem.W.Fast.tw2886282371270654485:Unit:=()
def _root_.PySem.W.Fast.tw2653070421818466609:Unit:=()
def _root_.PySem.W.Fast.tw2685579627087761656:Unit:=()
def _root_.PySem.W.Fast.tw14772423790527660525:Unit:=()
def _root_.PySem.W.Fast.tw2442982689355772105:Unit:=()
def _root_.PySem.W.Fast.tw8582140841694717597:Unit:=()
def _root_.PySem.W.Fast.tw11518712134386012444:Unit:=()
def _root_.PySem.W.Fast.tw15161789752236290019:Unit:=()
def _root_.PySem.W.Fast.tw9432792490355153785:Unit:=()
def _root_.PySem.W.Fast.tw9318926279399641848:Unit:=()
def _root_.PySem.W.Fast.tw7100882032536520922:Unit:=()
def _root_.PySem.W.Fast.tw754419354331733732:Unit:=()
def _root_.PySem.W.Fast.tw2457361950718712384:Unit:=()
def _root_.PySem.W.Fast.tw17529589656374619229:Unit:=()
def _root_.PySem.W.Fast.tw6662982750529218621:Unit:=()
def _root_.PySem.W.Fast.tw5801763744425504817:Unit:=()
def _root_.PySem.W.Fast.tw6209821024406620840:Unit:=()
def _root_.PySem.W.Fast.tw17781096788053493683:Unit:=()
def _root_.PySem.W.Fast.tw18368250785583110014:Unit:=()
def _root_.PySem.W.Fast.tw16654376238077213510:Unit:=()
def _root_.PySem.W.Fast.tw8251912566561111430:Unit:=()
def _root_.PySem.W.Fast.tw3809699479812372129:Unit:=()
def _root_.PySem.W.Fast.tw18283884149429056834:Unit:=()
def _root_.PySem.W.Fast.tw6446871093840779993:Unit:=()
def _root_.PySem.W.Fast.tw2709051425136540622:Unit:=()
def _root_.PySem.W.Fast.tw1741036048249122485:Unit:=()
def _root_.PySem.W.Fast.tw4980106232092687636:Unit:=()
def _root_.PySem.W.Fast.tw2911675633408025638:Unit:=()
def _root_.PySem.W.Fast.tw17545842461659608106:Unit:=()
def _root_.PySem.W.Fast.tw16075266304244036936:Unit:=()
def _root_.PySem.W.Fast.tw3997740616277177211:Unit:=()
def _root_.PySem.W.Fast.tw16432570831024616632:Unit:=()
def _root_.PySem.W.Fast.tw17821714375600846183:Unit:=()
def _root_.PySem.W.Fast.tw13887773623866607002:Unit:=()
def _root_.PySem.W.Fast.tw15500768873238608700:Unit:=()
def _root_.PySem.W.Fast.tw17606338874684917912:Unit:=()
def _root_.PySem.W.Fast.tw4539346968249242775:Unit:=()
def _root_.PySem.W.Fast.tw16767275857016392744:Unit:=()
def _root_.PySem.W.Fast.tw6065807146029006066:Unit:=()
def _root_.PySem.W.Fast.tw2200009848797304104:Unit:=()
def _root_.PySem.W.Fast.tw10350418831383287594:Unit:=()
def _root_.PySem.W.Fast.tw5554454909824696581:Unit:=()
def _root_.PySem.W.Fast.tw11501470639923372721:Unit:=()
def _root_.PySem.W.Fast.tw3046132513381543776:Unit:=()
def _root_.PySem.W.Fast.tw6895686168607412908:Unit:=()
def _root_.PySem.W.Fast.tw6202927005982088454:Unit:=()
def _root_.PySem.W.Fast.tw3213646898209824038:Unit:=()
def _root_.PySem.W.Fast.tw3789452383041773359:Unit:=()
def _root_.PySem.W.Fast.tw15679124333086808252:Unit:=()
set_option maxRecDepth 100000 in
set_option maxHeartbeats 0 in
theorem PySem.Challenge.cw_askhouse_k23_refusals_apart_holds : PySem.Challenge.rw_askhouse_k23_refusals_apart.Holds := by
 w_on; o_law; k_head; (case hw => w_witness2)
 k_fill
 refine L2.walk_ofK (l := PySem.Challenge.rw_askhouse_k23_refusals_apart) (n := 63) (k := 10) (x := "script") (CX := L2.CX0) (sp := fun K => My.sp_law K) rfl (by decide) rfl ⟨rfl, by decide, by decide⟩ (fun w h Y => PySem.W.kIn_of Y) ?F ?S ?C
 case F =>
  intro w mg fa h KX G hmg
  have T : ∃ t, My.Txt (L2.KOf KX) mg t := by
   dsimp only [L2.KOf]
   refine' My.txt_mk KX G ?z_len ?z_range ?z_isinstance ?z_list ?z_enumerate ?z_tuple ?z_str ?z_ValueError ?z_sum ?z_zip ?c_MOST_DOORS ?c_MOST_ROOMS ?c_HEADING ?a_House ?pg_House ?hd_House ?po_House ?sa_House ?mk_House ?kc_House ?tc_House ?tm_House ?n_House_doors ?n_House_ways ?n_House_lamps ?a_Book ?pg_Book ?hd_Book ?po_Book ?sa_Book ?mk_Book ?kc_Book ?tc_Book ?tm_Book ?n_Book_doors ?n_Book_noted ?a_Learner ?pg_Learner ?hd_Learner ?po_Learner ?sa_Learner ?mk_Learner ?kc_Learner ?tc_Learner ?tm_Learner ?n_Learner_book ?n_Learner_doors ?n_Learner_heads ?n_Learner_tails ?n_Learner_lines ?n_Learner_rows ?n_Learner_filled ?a_HouseError ?x_HouseError ?g1_HouseError ?g2_HouseError ?g3_HouseError ?g4_HouseError ?ty_HouseError ?mv_HouseError ?ms_HouseError ?a_BadHouse ?x_BadHouse ?g1_BadHouse ?g2_BadHouse ?g3_BadHouse ?g4_BadHouse ?ty_BadHouse ?mv_BadHouse ?ms_BadHouse ?a_BadWord ?x_BadWord ?g1_BadWord ?g2_BadWord ?g3_BadWord ?g4_BadWord ?ty_BadWord ?mv_BadWord ?ms_BadWord ?a_NoRoom ?x_NoRoom ?g1_NoRoom ?g2_NoRoom ?g3_NoRoom ?g4_NoRoom ?ty_NoRoom ?mv_NoRoom ?ms_NoRoom ?a_OtherDoors ?x_OtherDoors ?g1_OtherDoors ?g2_OtherDoors ?g3_OtherDoors ?g4_OtherDoors ?ty_OtherDoors ?mv_OtherDoors ?ms_OtherDoors ?a_TooGreat ?x_TooGreat ?g1_TooGreat ?g2_TooGreat ?g3_TooGreat ?g4_TooGreat ?ty_TooGreat ?mv_TooGreat ?ms_TooGreat ?a_NoSuch ?x_NoSuch ?g1_NoSuch ?g2_NoSuch ?g3_NoSuch ?g4_NoSuch ?ty_NoSuch ?mv_NoSuch ?ms_NoSuch ?a_SaidOtherwise ?x_SaidOtherwise ?g1_SaidOtherwise ?g2_SaidOtherwise ?g3_SaidOtherwise ?g4_SaidOtherwise ?ty_SaidOtherwise ?mv_SaidOtherwise ?ms_SaidOtherwise ?a_NotAsked ?x_NotAsked ?g1_NotAsked ?g2_NotAsked ?g3_NotAsked ?g4_NotAsked ?ty_NotAsked ?mv_NotAsked ?ms_NotAsked ?a_NotYet ?x_NotYet ?g1_NotYet ?g2_NotYet ?g3_NotYet ?g4_NotYet ?ty_NotYet ?mv_NotYet ?ms_NotYet ?a_NotWrong ?x_NotWrong ?g1_NotWrong ?g2_NotWrong ?g3_NotWrong ?g4_NotWrong ?ty_NotWrong ?mv_NotWrong ?ms_NotWrong ?a_BadText ?x_BadText ?g1_BadText ?g2_BadText ?g3_BadText ?g4_BadText ?ty_BadText ?mv_BadText ?ms_BadText ?mb_HouseError ?mb_BadHouse ?mb_BadWord ?mb_NoRoom ?mb_OtherDoors ?mb_TooGreat ?mb_NoSuch ?mb_SaidOtherwise ?mb_NotAsked ?mb_NotYet ?mb_NotWrong ?mb_BadText ?mr_BadHouse_HouseError ?mr_BadHouse_BadWord ?mr_BadHouse_NoRoom ?mr_BadHouse_OtherDoors ?mr_BadHouse_TooGreat ?mr_BadHouse_NoSuch ?mr_BadHouse_SaidOtherwise ?mr_BadHouse_NotAsked ?mr_BadHouse_NotYet ?mr_BadHouse_NotWrong ?mr_BadHouse_BadText ?mr_BadWord_HouseError ?mr_BadWord_BadHouse ?mr_BadWord_NoRoom ?mr_BadWord_OtherDoors ?mr_BadWord_TooGreat ?mr_BadWord_NoSuch ?mr_BadWord_SaidOtherwise ?mr_BadWord_NotAsked ?mr_BadWord_NotYet ?mr_BadWord_NotWrong ?mr_BadWord_BadText ?mr_NoRoom_HouseError ?mr_NoRoom_BadHouse ?mr_NoRoom_BadWord ?mr_NoRoom_OtherDoors ?mr_NoRoom_TooGreat ?mr_NoRoom_NoSuch ?mr_NoRoom_SaidOtherwise ?mr_NoRoom_NotAsked ?mr_NoRoom_NotYet ?mr_NoRoom_NotWrong ?mr_NoRoom_BadText ?mr_OtherDoors_HouseError ?mr_OtherDoors_BadHouse ?mr_OtherDoors_BadWord ?mr_OtherDoors_NoRoom ?mr_OtherDoors_TooGreat ?mr_OtherDoors_NoSuch ?mr_OtherDoors_SaidOtherwise ?mr_OtherDoors_NotAsked ?mr_OtherDoors_NotYet ?mr_OtherDoors_NotWrong ?mr_OtherDoors_BadText ?mr_TooGreat_HouseError ?mr_TooGreat_BadHouse ?mr_TooGreat_BadWord ?mr_TooGreat_NoRoom ?mr_TooGreat_OtherDoors ?mr_TooGreat_NoSuch ?mr_TooGreat_SaidOtherwise ?mr_TooGreat_NotAsked ?mr_TooGreat_NotYet ?mr_TooGreat_NotWrong ?mr_TooGreat_BadText ?mr_NoSuch_HouseError ?mr_NoSuch_BadHouse ?mr_NoSuch_BadWord ?mr_NoSuch_NoRoom ?mr_NoSuch_OtherDoors ?mr_NoSuch_TooGreat ?mr_NoSuch_SaidOtherwise ?mr_NoSuch_NotAsked ?mr_NoSuch_NotYet ?mr_NoSuch_NotWrong ?mr_NoSuch_BadText ?mr_SaidOtherwise_HouseError ?mr_SaidOtherwise_BadHouse ?mr_SaidOtherwise_BadWord ?mr_SaidOtherwise_NoRoom ?mr_SaidOtherwise_OtherDoors ?mr_SaidOtherwise_TooGreat ?mr_SaidOtherwise_NoSuch ?mr_SaidOtherwise_NotAsked ?mr_SaidOtherwise_NotYet ?mr_SaidOtherwise_NotWrong ?mr_SaidOtherwise_BadText ?mr_NotAsked_HouseError ?mr_NotAsked_BadHouse ?mr_NotAsked_BadWord ?mr_NotAsked_NoRoom ?mr_NotAsked_OtherDoors ?mr_NotAsked_TooGreat ?mr_NotAsked_NoSuch ?mr_NotAsked_SaidOtherwise ?mr_NotAsked_NotYet ?mr_NotAsked_NotWrong ?mr_NotAsked_BadText ?mr_NotYet_HouseError ?mr_NotYet_BadHouse ?mr_NotYet_BadWord ?mr_NotYet_NoRoom ?mr_NotYet_OtherDoors ?mr_NotYet_TooGreat ?mr_NotYet_NoSuch ?mr_NotYet_SaidOtherwise ?mr_NotYet_NotAsked ?mr_NotYet_NotWrong ?mr_NotYet_BadText ?mr_NotWrong_HouseError ?mr_NotWrong_BadHouse ?mr_NotWrong_BadWord ?mr_NotWrong_NoRoom ?mr_NotWrong_OtherDoors ?mr_NotWrong_TooGreat ?mr_NotWrong_NoSuch ?mr_NotWrong_SaidOtherwise ?mr_NotWrong_NotAsked ?mr_NotWrong_NotYet ?mr_NotWrong_BadText ?mr_BadText_HouseError ?mr_BadText_BadHouse ?mr_BadText_BadWord ?mr_BadText_NoRoom ?mr_BadText_OtherDoors ?mr_BadText_TooGreat ?mr_BadText_NoSuch ?mr_BadText_SaidOtherwise ?mr_BadText_NotAsked ?mr_BadText_NotYet ?mr_BadText_NotWrong ?tg ?tt ?a0 ?l0 ?c0 ?k0 ?a1 ?l1 ?c1 ?k1 ?a2 ?l2 ?c2 ?k2 ?a3 ?i3 ?l3 ?c3 ?k3 ?a4 ?i4 ?l4 ?c4 ?k4 ?a5 ?i5 ?l5 ?c5 ?k5 ?a6 ?i6 ?l6 ?c6 ?k6 ?a7 ?i7 ?l7 ?c7 ?k7 ?a8 ?i8 ?l8 ?c8 ?k8 ?a9 ?i9 ?l9 ?c9 ?k9 ?a10 ?i10 ?l10 ?c10 ?k10 ?a11 ?i11 ?l11 ?c11 ?k11 ?a12 ?l12 ?c12 ?k12 ?a13 ?l13 ?c13 ?k13 ?a14 ?l14 ?c14 ?k14 ?a15 ?l15 ?c15 ?k15 ?a16 ?l16 ?c16 ?k16 ?a17 ?l17 ?c17 ?k17 ?a18 ?l18 ?c18 ?k18 ?a19 ?l19 ?c19 ?k19 ?a20 ?l20 ?c20 ?k20 ?a21 ?l21 ?c21 ?k21 ?a22 ?l22 ?c22 ?k22 ?a23 ?l23 ?c23 ?k23 ?a24 ?l24 ?c24 ?k24 ?a25 ?l25 ?c25 ?k25 ?a26 ?l26 ?c26 ?k26 ?a27 ?i27 ?l27 ?c27 ?k27 ?a28 ?i28 ?l28 ?c28 ?k28 ?a29 ?i29 ?l29 ?c29 ?k29 ?a30 ?i30 ?l30 ?c30 ?k30 ?a31 ?i31 ?l31 ?c31 ?k31 ?a32 ?i32 ?l32 ?c32 ?k32 ?a33 ?i33 ?l33 ?c33 ?k33 ?a34 ?i34 ?l34 ?c34 ?k34 ?a35 ?i35 ?l35 ?c35 ?k35 ?a36 ?i36 ?l36 ?c36 ?k36 ?a37 ?i37 ?l37 ?c37 ?k37 ?a38 ?l38 ?c38 ?k38 ?a39 ?l39 ?c39 ?k39 ?a40 ?l40 ?c40 ?k40 ?a41 ?l41 ?c41 ?k41 ?a42 ?l42 ?c42 ?k42 ?a43 ?l43 ?c43 ?k43 ?a44 ?l44 ?c44 ?k44 ?a45 ?l45 ?c45 ?k45 ?a46 ?l46 ?c46 ?k46 ?a47 ?l47 ?c47 ?k47 ?a48 ?l48 ?c48 ?k48
   case z_len | z_range | z_isinstance | z_list | z_enumerate | z_tuple | z_str | z_ValueError | z_sum | z_zip | c_MOST_DOORS | c_MOST_ROOMS | c_HEADING | a_House | pg_House | hd_House | po_House | sa_House | mk_House | kc_House | tc_House | tm_House | n_House_doors | n_House_ways | n_House_lamps | a_Book | pg_Book | hd_Book | po_Book | sa_Book | mk_Book | kc_Book | tc_Book | tm_Book | n_Book_doors | n_Book_noted | a_Learner | pg_Learner | hd_Learner | po_Learner | sa_Learner | mk_Learner | kc_Learner | tc_Learner | tm_Learner | n_Learner_book | n_Learner_doors | n_Learner_heads | n_Learner_tails | n_Learner_lines | n_Learner_rows | n_Learner_filled | a_HouseError => k_is
   (case x_HouseError => k_exc)
   case g1_HouseError | g2_HouseError | g3_HouseError | g4_HouseError | ty_HouseError | mv_HouseError | ms_HouseError | a_BadHouse => k_is
   (case x_BadHouse => k_exc)
   case g1_BadHouse | g2_BadHouse | g3_BadHouse | g4_BadHouse | ty_BadHouse | mv_BadHouse | ms_BadHouse | a_BadWord => k_is
   (case x_BadWord => k_exc)
   case g1_BadWord | g2_BadWord | g3_BadWord | g4_BadWord | ty_BadWord | mv_BadWord | ms_BadWord | a_NoRoom => k_is
   (case x_NoRoom => k_exc)
   case g1_NoRoom | g2_NoRoom | g3_NoRoom | g4_NoRoom | ty_NoRoom | mv_NoRoom | ms_NoRoom | a_OtherDoors => k_is
   (case x_OtherDoors => k_exc)
   case g1_OtherDoors | g2_OtherDoors | g3_OtherDoors | g4_OtherDoors | ty_OtherDoors | mv_OtherDoors | ms_OtherDoors | a_TooGreat => k_is
   (case x_TooGreat => k_exc)
   case g1_TooGreat | g2_TooGreat | g3_TooGreat | g4_TooGreat | ty_TooGreat | mv_TooGreat | ms_TooGreat | a_NoSuch => k_is
   (case x_NoSuch => k_exc)
   case g1_NoSuch | g2_NoSuch | g3_NoSuch | g4_NoSuch | ty_NoSuch | mv_NoSuch | ms_NoSuch | a_SaidOtherwise => k_is
   (case x_SaidOtherwise => k_exc)
   case g1_SaidOtherwise | g2_SaidOtherwise | g3_SaidOtherwise | g4_SaidOtherwise | ty_SaidOtherwise | mv_SaidOtherwise | ms_SaidOtherwise | a_NotAsked => k_is
   (case x_NotAsked => k_exc)
   case g1_NotAsked | g2_NotAsked | g3_NotAsked | g4_NotAsked | ty_NotAsked | mv_NotAsked | ms_NotAsked | a_NotYet => k_is
   (case x_NotYet => k_exc)
   case g1_NotYet | g2_NotYet | g3_NotYet | g4_NotYet | ty_NotYet | mv_NotYet | ms_NotYet | a_NotWrong => k_is
   (case x_NotWrong => k_exc)
   case g1_NotWrong | g2_NotWrong | g3_NotWrong | g4_NotWrong | ty_NotWrong | mv_NotWrong | ms_NotWrong | a_BadText => k_is
   (case x_BadText => k_exc)
   case g1_BadText | g2_BadText | g3_BadText | g4_BadText | ty_BadText | mv_BadText | ms_BadText | mb_HouseError | mb_BadHouse | mb_BadWord | mb_NoRoom | mb_OtherDoors | mb_TooGreat | mb_NoSuch | mb_SaidOtherwise | mb_NotAsked | mb_NotYet | mb_NotWrong | mb_BadText | mr_BadHouse_HouseError | mr_BadHouse_BadWord | mr_BadHouse_NoRoom | mr_BadHouse_OtherDoors | mr_BadHouse_TooGreat | mr_BadHouse_NoSuch | mr_BadHouse_SaidOtherwise | mr_BadHouse_NotAsked | mr_BadHouse_NotYet | mr_BadHouse_NotWrong | mr_BadHouse_BadText | mr_BadWord_HouseError | mr_BadWord_BadHouse | mr_BadWord_NoRoom | mr_BadWord_OtherDoors | mr_BadWord_TooGreat | mr_BadWord_NoSuch | mr_BadWord_SaidOtherwise | mr_BadWord_NotAsked | mr_BadWord_NotYet | mr_BadWord_NotWrong | mr_BadWord_BadText | mr_NoRoom_HouseError | mr_NoRoom_BadHouse | mr_NoRoom_BadWord | mr_NoRoom_OtherDoors | mr_NoRoom_TooGreat | mr_NoRoom_NoSuch | mr_NoRoom_SaidOtherwise | mr_NoRoom_NotAsked | mr_NoRoom_NotYet | mr_NoRoom_NotWrong | mr_NoRoom_BadText | mr_OtherDoors_HouseError | mr_OtherDoors_BadHouse | mr_OtherDoors_BadWord | mr_OtherDoors_NoRoom | mr_OtherDoors_TooGreat | mr_OtherDoors_NoSuch | mr_OtherDoors_SaidOtherwise | mr_OtherDoors_NotAsked | mr_OtherDoors_NotYet | mr_OtherDoors_NotWrong | mr_OtherDoors_BadText | mr_TooGreat_HouseError | mr_TooGreat_BadHouse | mr_TooGreat_BadWord | mr_TooGreat_NoRoom | mr_TooGreat_OtherDoors | mr_TooGreat_NoSuch | mr_TooGreat_SaidOtherwise | mr_TooGreat_NotAsked | mr_TooGreat_NotYet | mr_TooGreat_NotWrong | mr_TooGreat_BadText | mr_NoSuch_HouseError | mr_NoSuch_BadHouse | mr_NoSuch_BadWord | mr_NoSuch_NoRoom | mr_NoSuch_OtherDoors | mr_NoSuch_TooGreat | mr_NoSuch_SaidOtherwise | mr_NoSuch_NotAsked | mr_NoSuch_NotYet | mr_NoSuch_NotWrong | mr_NoSuch_BadText | mr_SaidOtherwise_HouseError | mr_SaidOtherwise_BadHouse | mr_SaidOtherwise_BadWord | mr_SaidOtherwise_NoRoom | mr_SaidOtherwise_OtherDoors | mr_SaidOtherwise_TooGreat | mr_SaidOtherwise_NoSuch | mr_SaidOtherwise_NotAsked | mr_SaidOtherwise_NotYet | mr_SaidOtherwise_NotWrong | mr_SaidOtherwise_BadText | mr_NotAsked_HouseError | mr_NotAsked_BadHouse | mr_NotAsked_BadWord | mr_NotAsked_NoRoom | mr_NotAsked_OtherDoors | mr_NotAsked_TooGreat | mr_NotAsked_NoSuch | mr_NotAsked_SaidOtherwise | mr_NotAsked_NotYet | mr_NotAsked_NotWrong | mr_NotAsked_BadText | mr_NotYet_HouseError | mr_NotYet_BadHouse | mr_NotYet_BadWord | mr_NotYet_NoRoom | mr_NotYet_OtherDoors | mr_NotYet_TooGreat | mr_NotYet_NoSuch | mr_NotYet_SaidOtherwise | mr_NotYet_NotAsked | mr_NotYet_NotWrong | mr_NotYet_BadText | mr_NotWrong_HouseError | mr_NotWrong_BadHouse | mr_NotWrong_BadWord | mr_NotWrong_NoRoom | mr_NotWrong_OtherDoors | mr_NotWrong_TooGreat | mr_NotWrong_NoSuch | mr_NotWrong_SaidOtherwise | mr_NotWrong_NotAsked | mr_NotWrong_NotYet | mr_NotWrong_BadText | mr_BadText_HouseError | mr_BadText_BadHouse | mr_BadText_BadWord | mr_BadText_NoRoom | mr_BadText_OtherDoors | mr_BadText_TooGreat | mr_BadText_NoSuch | mr_BadText_SaidOtherwise | mr_BadText_NotAsked | mr_BadText_NotYet | mr_BadText_NotWrong | tg | tt | a0 | l0 | c0 | k0 | a1 | l1 | c1 | k1 | a2 | l2 | c2 | k2 | a3 | i3 | l3 | c3 | k3 | a4 | i4 | l4 | c4 | k4 | a5 | i5 | l5 | c5 | k5 | a6 | i6 | l6 | c6 | k6 | a7 | i7 | l7 | c7 | k7 | a8 | i8 | l8 | c8 | k8 | a9 | i9 | l9 | c9 | k9 | a10 | i10 | l10 | c10 | k10 | a11 | i11 | l11 | c11 | k11 | a12 | l12 | c12 | k12 | a13 | l13 | c13 | k13 | a14 | l14 | c14 | k14 | a15 | l15 | c15 | k15 | a16 | l16 | c16 | k16 | a17 | l17 | c17 | k17 | a18 | l18 | c18 | k18 | a19 | l19 | c19 | k19 | a20 | l20 | c20 | k20 | a21 | l21 | c21 | k21 | a22 | l22 | c22 | k22 | a23 | l23 | c23 | k23 | a24 | l24 | c24 | k24 | a25 | l25 | c25 | k25 | a26 | l26 | c26 | k26 | a27 | i27 | l27 | c27 | k27 | a28 | i28 | l28 | c28 | k28 | a29 | i29 | l29 | c29 | k29 | a30 | i30 | l30 | c30 | k30 | a31 | i31 | l31 | c31 | k31 | a32 | i32 | l32 | c32 | k32 | a33 | i33 | l33 | c33 | k33 | a34 | i34 | l34 | c34 | k34 | a35 | i35 | l35 | c35 | k35 | a36 | i36 | l36 | c36 | k36 | a37 | i37 | l37 | c37 | k37 | a38 | l38 | c38 | k38 | a39 | l39 | c39 | k39 | a40 | l40 | c40 | k40 | a41 | l41 | c41 | k41 | a42 | l42 | c42 | k42 | a43 | l43 | c43 | k43 | a44 | l44 | c44 | k44 | a45 | l45 | c45 | k45 | a46 | l46 | c46 | k46 | a47 | l47 | c47 | k47 | a48 | l48 | c48 | k48 => k_is
  obtain ⟨t, T⟩ := T
  have e0 := hmg.symm.trans T.mg_law
  cases e0
  refine' ⟨t.fd_law, ?b, fun base kb nb => My.ok_law T⟩
  obtain ⟨oc, od, kV, doc, pm, an, cdv, ct, osl, e, _, _⟩ := T.F_law.ex
  rw [e]
  exact fun s u => .of_eq rfl
 case S => exact fun K H a ns hl hO hS => ⟨a, ns, rfl, hS, hl, fun _ => rfl⟩
 case C => exact fun _ _ _ _ h => h
#print axioms PySem.Challenge.cw_askhouse_k23_refusals_apart_holds
