import PyProof.Rows.All
import Wide.All
import OpenK.AllK
import Wide.FinOn
import Lean
import PyProof.EqAt
import PyProof.EqKinds
import PyProof.TupleCall
import PySem.Challenge.RW_flagfloor_k17_read_or_refused
noncomputable section
set_option bootstrap.genMatcherCode false
set_option compiler.extract_closed false
local macro_rules | `(tactic| omega) => `(tactic| lia)

set_option Elab.async false
set_option linter.all false
set_option maxRecDepth 100000

namespace L2
open PySem PySem.Spec PyProof.Rows

noncomputable abbrev Key:=Sum Int Str
noncomputable def Vm:Key->Value->Bool
 | .inl k,v=>Value.isInt k v
 | .inr x,v=>Value.isStrOf x v
noncomputable def Arf (w:World):Key->Int
 | .inl k=>hashInt k
 | .inr x=>hashStr w x
theorem Ca:∀ {k:Key}{v:Value},Vm k v=true->(∃ i t,k=Sum.inl i/\v=Value.int i t)\/(∃ x t,k=Sum.inr x/\v=Value.str x t)
 | .inl i,v,h=>by
  obtain⟨t,e⟩:=Value.isInt_shape (k:=i) (v:=v) h
  exact .inl ⟨i,t,rfl,e⟩
 | .inr x,v,h=>by
  obtain⟨t,e⟩:=Value.isStrOf_shape (x:=x) (v:=v) h
  exact .inr ⟨x,t,rfl,e⟩
theorem X7 (i:Int) (t:Tok):Vm (.inl i) (.int i t)=true:=by simp [Vm,Value.isInt]
theorem Z9 (x:Str) (t:Tok):Vm (.inr x) (.str x t)=true:=by simp [Vm,Value.isStrOf]
theorem Ajm (a b:Int):decide ((Sum.inl a:Key)=Sum.inl b)=(a == b):=by
 by_cases e:a=b
 ·subst e;simp
 ·have h:¬ (Sum.inl a:Key)=Sum.inl b:=λ q=>e (Sum.inl.inj q)
  rw [decide_eq_false h]
  exact (beq_eq_false_iff_ne.mpr e).symm
theorem Ah7 (a b:Str):decide ((Sum.inr a:Key)=Sum.inr b)=decide (a=b):=by
 by_cases e:a=b
 ·subst e;simp
 ·have h:¬ (Sum.inr a:Key)=Sum.inr b:=λ q=>e (Sum.inr.inj q)
  rw [decide_eq_false h,decide_eq_false e]
theorem Ag5 (a:Int) (b:Str):decide ((Sum.inl a:Key)=Sum.inr b)=false:=decide_eq_false (λ q=>nomatch q)
theorem Ah0 (a:Str) (b:Int):decide ((Sum.inr a:Key)=Sum.inl b)=false:=decide_eq_false (λ q=>nomatch q)

noncomputable def Cv (prog:Program) (w:World):PySem.KeyKind prog w Key where
 is:=Vm
 hash:=Arf w
 inj:=λ v a b ha hb=>by
  rcases Ca ha with ⟨i,t,rfl,rfl⟩|⟨x,t,rfl,rfl⟩
  ·rcases Ca hb with ⟨j,u,rfl,e⟩|⟨y,u,rfl,e⟩
   ·injection e with e1 _;rw [e1]
   ·exact nomatch e
  ·rcases Ca hb with ⟨j,u,rfl,e⟩|⟨y,u,rfl,e⟩
   ·exact nomatch e
   ·injection e with e1 _;rw [e1]
 byValue:=λ k v h=>by
  rcases Ca h with ⟨i,t,rfl,rfl⟩|⟨x,t,rfl,rfl⟩<;>rfl
 pyHash:=λ hv h=>by
  rcases Ca hv with ⟨i,t,rfl,rfl⟩|⟨x,t,rfl,rfl⟩
  ·exact wpAny_pyHash_int h
  ·exact wpAny_pyHash_str h
 eqBool:=λ hu hv h=>by
  rcases Ca hu with ⟨i,t,rfl,rfl⟩|⟨x,t,rfl,rfl⟩
  ·rcases Ca hv with ⟨j,u,rfl,rfl⟩|⟨y,u,rfl,rfl⟩
   ·rw [Ajm] at h;exact wpAny_eqBool_int h
   ·rw [Ag5] at h;exact SeqAt.EqAt.int_str i t y u _ _ _ _ h
  ·rcases Ca hv with ⟨j,u,rfl,rfl⟩|⟨y,u,rfl,rfl⟩
   ·rw [Ah0] at h;exact SeqAt.EqAt.str_int x t j u _ _ _ _ h
   ·rw [Ah7] at h;exact wpAny_eqBool_str h
 «strs»:=λ k x t v h=>by
  rcases Ca h with ⟨i,u,rfl,e⟩|⟨y,u,rfl,e⟩
  ·exact nomatch e
  ·injection e with e1 _
   subst e1
   cases v<;>rfl

theorem Sv (prog:Program) (w:World) (i:Int) (t:Tok):(Cv prog w).is (.inl i) (.int i t)=true:=X7 i t
theorem Rz (prog:Program) (w:World) (x:Str) (t:Tok):(Cv prog w).is (.inr x) (.str x t)=true:=Z9 x t
end L2

namespace L2
open PySem PySem.Spec PyProof.Rows

inductive V where
 | non|bl (b:Bool)|int (i:Int)|str (x:Str)|byt (b:Array UInt8)|flt (b:UInt64)|ref (a:Addr)|ty (n:String)
 deriving DecidableEq

noncomputable def RelV:V->Value->Prop
 | .non,u=>u=Value.none
 | .bl b,u=>u=Value.bool b
 | .int i,u=>∃ t,u=Value.int i t
 | .str x,u=>∃ t,u=Value.str x t
 | .byt b,u=>∃ t,u=Value.bytes b t
 | .flt b,u=>∃ t,u=Value.float b t
 | .ref a,u=>u=Value.ref a
 | .ty n,u=>u=Value.type n

noncomputable abbrev Vals:List V->List Value->Prop:=Paired RelV
theorem Vals.length {xs:List V}{us:List Value}(r:Vals xs us):xs.length=us.length:=Paired.length r
theorem Vals.get:∀ {xs:List V}{us:List Value}{i:Nat}{x:V},Vals xs us->xs[i]?=some x->∃ u,us[i]?=some u/\RelV x u
 | _,_,_,_,.nil,e=>by simp at e
 | _,_,0,_,.cons r _,e=>by simp at e;subst e;exact⟨_,rfl,r⟩
 | _,_,i+1,x,.cons _ t,e=>by
  obtain⟨u,h1,h2⟩:=Vals.get (i:=i) (x:=x) t (by simpa using e)
  exact⟨u,by simpa using h1,h2⟩
theorem Vals.append:∀ {xs ys:List V}{us ws:List Value},Vals xs us->Vals ys ws->Vals (xs++ys) (us++ws)
 | _,_,_,_,.nil,s=>s
 | _,_,_,_,.cons r t,s=>.cons r (Vals.append t s)
theorem Vals.take:∀ {xs:List V}{us:List Value}(n:Nat),Vals xs us->Vals (xs.take n) (us.take n)
 | _,_,0,_=>.nil
 | _,_,_+1,.nil=>.nil
 | _,_,n+1,.cons r t=>.cons r (Vals.take n t)
theorem Vals.drop:∀ {xs:List V}{us:List Value}(n:Nat),Vals xs us->Vals (xs.drop n) (us.drop n)
 | _,_,0,r=>r
 | _,_,_+1,.nil=>.nil
 | _,_,n+1,.cons _ t=>Vals.drop n t

noncomputable def Wc:Option V->Option Value->Prop
 | some v,some u=>RelV v u
 | none,none=>True
 | _,_=>False
noncomputable def KV {κ:Type}:List (κ × V)->List (κ × Value)->Prop:=Paired λ (p:κ × V) (q:κ × Value)=>p.1=q.1/\RelV p.2 q.2

noncomputable def kV:Key->V
 | .inl i=>.int i
 | .inr x=>.str x

inductive HO where
  | lst (xs:List V)
  | tup (xs:List V)
  | dK (kvs:List (Key × V))|dT (kvs:List (List Key × V))
  | set (S:Int->Bool) (n:Nat)
  | ins (C dx:Addr) (fs:List (Str × V))
  | own (x:Addr)
  | xd (fs:List (Str × V))
  | met (f x:Addr)
  | rng (lo hi:Int)
  | frz (o:Obj) (u:HO)
  | tbl (ps:Array Value)
  | ext (φ:Heap->Prop)

noncomputable abbrev Hp:=Addr->Option HO
noncomputable def upd (H:Hp) (a:Addr) (o:HO):Hp:=λ b=>if b=a then some o else H b
theorem Aq {H:Hp}{a:Addr}{o:HO}:upd H a o a=some o:=by unfold upd;rw [if_pos rfl]
theorem Ah {H:Hp}{a b:Addr}{o:HO}(h:b≠a):upd H a o b=H b:=by unfold upd;rw [if_neg h]
theorem Vq {H:Hp}{a b:Addr}{o u:HO}(h:H a=some o) (h':H b=some u) (d:o≠u):a≠b:=by
 intro e;subst e;rw [h] at h';exact d (Option.some.inj h')
theorem Aw {H:Hp}{a b:Addr}{o:HO}(h:H a=some o) (h':H b=none):a≠b:=by
 intro e;subst e;rw [h] at h';cases h'

section
variable (P:Program) (w:World)
noncomputable def Cp (H:Hp) (h:Heap) (a:Addr):HO->Prop
 | .lst xs=>xs.length<=sizeLine/\∃ (its:List Value) (n:Nat),Vals xs its/\h.get? a=some { cls:=.type "list",data:=.seq its.toArray n }
 | .tup xs=>xs.length<=sizeLine/\∃ its:List Value,Vals xs its/\IsTup h a its.toArray
 | .dK kvs=>kvs.length<=sizeLine/\(a == sysModules)=false/\∃ vs,KV kvs vs/\h.DictOf (Cv P w) a vs
 | .dT kvs=>kvs.length<=sizeLine/\(a == sysModules)=false/\∃ xs:List (List Key × Addr × Value),
   Paired (λ (p:List Key × V) (q:List Key × Addr × Value)=>p.1=q.1/\H q.2.1=some (.tup (p.1.map kV))/\RelV p.2 q.2.2) kvs xs ∧
   ∃ o es ep,h.get? a=some o/\o.ExactDict/\o.data=.dict es ep/\es.toList=xs.map (entryOfKey (tupleKind (Cv P w)))/\(xs.map (·.1)).Nodup
 | .set S n=>h.SetOf (intKind P w) a S n
 | .ins C dx fs=>H dx=some (.own a)/\fs.length<=1000/\dx≠a/\h.get? a=some (PySem.W.instObj C dx) ∧
   ∃ mA,h.Ns1 dx mA/\(∀ f,Wc (fs.lookup f) (mA f))/\PySem.Within mA (fs.map (·.1))
 | .own _=>∃ o,h.get? a=some o
 | .xd fs=>∃ mA,h.Ns1 a mA/\∀ f,Wc (fs.lookup f) (mA f)
 | .rng lo hi=>∃ t u v,h.get? a=some { cls:=.type "range",data:=.fields #[.int lo t,.int hi u,.int 1 v] }
 | .frz o u=>h.get? a=some o/\Cp H h a u
 | .tbl ps=>h.get? a=some { cls:=.none,data:=.fields ps }
 | .met f x=>h.get? a=some (PySem.W.methodObj (.ref f) (.ref x))
 | .ext φ=>φ h/\(∃ o,h.get? a=some o)/\∀ h1 h2:Heap,φ h1->(∀ o,h1.get? a=some o->h2.get? a=some o)->φ h2
noncomputable def HOk (H:Hp) (h:Heap):Prop:=∀ a o,H a=some o->Cp P w H h a o
end

section
variable {P:Program}{w:World}{H H':Hp}{h h':Heap}{a:Addr}{o:HO}
theorem Cp.lt (x:Cp P w H h a o):a<h.objs.size:=by
 cases o with
 | lst xs=>obtain⟨_,_,_,_,e⟩:=x;exact Heap.lt_size e
 | tup xs=>obtain⟨_,_,_,p⟩:=x;exact p.lt
 | dK kvs=>obtain⟨_,_,_,_,o,_,_,e,_⟩:=x;exact Heap.lt_size e
 | dT kvs=>obtain⟨_,_,_,_,o,_,_,e,_⟩:=x;exact Heap.lt_size e
 | set S n=>obtain⟨o,_,_,_,e,_⟩:=x;exact Heap.lt_size e
 | ins C dx fs=>obtain⟨_,_,_,e,_⟩:=x;exact Heap.lt_size e
 | own y=>obtain⟨_,e⟩:=x;exact Heap.lt_size e
 | xd fs=>obtain⟨_,⟨_,_,_,e,_⟩,_⟩:=x;exact Heap.lt_size e
 | rng lo hi=>obtain⟨_,_,_,e⟩:=x;exact Heap.lt_size e
 | frz ob u=>obtain⟨e,_⟩:=x;exact Heap.lt_size e
 | tbl ps=>exact Heap.lt_size (show h.get? a=some _ from x)
 | met f y=>exact Heap.lt_size (show h.get? a=some _ from x)
 | ext φ=>obtain⟨_,⟨_,e⟩,_⟩:=x;exact Heap.lt_size e
theorem Paired.mapP {α β:Type}{F G:α->β->Prop}:∀ {l₁:List α}{l₂:List β},Paired F l₁ l₂->(∀ a b,F a b->G a b)->Paired G l₁ l₂
 | _,_,.nil,_=>.nil
 | _,_,.cons r t,f=>.cons (f _ _ r) (Paired.mapP t f)
theorem Cp.stay (x:Cp P w H h a o) (k:∀ b u,(b=a\/H b=some (.own a))->h.get? b=some u->h'.get? b=some u)
  (ho:∀ b,H b=some (.own a)->H' b=some (.own a)) (ht:∀ b xs,H b=some (.tup xs)->H' b=some (.tup xs)):Cp P w H' h' a o:=by
 induction o with
 | lst xs=>obtain⟨z,its,n,r,e⟩:=x;exact⟨z,its,n,r,k _ _ (.inl rfl) e⟩
 | tup xs=>obtain⟨z,its,r,ob,e,c⟩:=x;exact⟨z,its,r,ob,k _ _ (.inl rfl) e,c⟩
 | dK kvs=>obtain⟨z,y,vs,r,ob,es,ep,e,c⟩:=x;exact⟨z,y,vs,r,ob,es,ep,k _ _ (.inl rfl) e,c⟩
 | dT kvs =>
  obtain⟨z,y,xs,r,ob,es,ep,e,c⟩:=x
  exact⟨z,y,xs,Paired.mapP r λ p q z=>⟨z.1,ht _ _ z.2.1,z.2.2⟩,ob,es,ep,k _ _ (.inl rfl) e,c⟩
 | set S n=>obtain⟨ob,es,ep,t,e,c⟩:=x;exact⟨ob,es,ep,t,k _ _ (.inl rfl) e,c⟩
 | ins C dx fs =>
  obtain⟨d,z,ne,e,mA,⟨od,es,ep,e2,c⟩,r⟩:=x
  exact⟨ho _ d,z,ne,k _ _ (.inl rfl) e,mA,⟨od,es,ep,k _ _ (.inr d) e2,c⟩,r⟩
 | own y=>obtain⟨ob,e⟩:=x;exact⟨ob,k _ _ (.inl rfl) e⟩
 | xd fs=>obtain⟨mA,⟨od,es,ep,e,c⟩,r⟩:=x;exact⟨mA,⟨od,es,ep,k _ _ (.inl rfl) e,c⟩,r⟩
 | rng lo hi=>obtain⟨t,u,v,e⟩:=x;exact⟨t,u,v,k _ _ (.inl rfl) e⟩
 | frz ob u ih=>obtain⟨e,q⟩:=x;exact⟨k _ _ (.inl rfl) e,ih q⟩
 | tbl ps =>
  have e:h.get? a=some { cls:=.none,data:=.fields ps }:=x
  show h'.get? a=some { cls:=.none,data:=.fields ps }
  exact k a _ (.inl rfl) e
 | met f y =>
  have e:h.get? a=some (PySem.W.methodObj (.ref f) (.ref y)):=x
  show h'.get? a=some (PySem.W.methodObj (.ref f) (.ref y))
  exact k a _ (.inl rfl) e
 | ext φ=>obtain⟨p,⟨o,e⟩,st⟩:=x;exact⟨st _ _ p λ o q=>k _ _ (.inl rfl) q,⟨o,k _ _ (.inl rfl) e⟩,st⟩
theorem HOk.lt (x:HOk P w H h) (e:H a=some o):a<h.objs.size:=(x a o e).lt
theorem HOk.fresh (x:HOk P w H h) (e:h.objs.size<=a):H a=none:=by
 cases q:H a with
 | none=>rfl
 | some u=>exact absurd (Nat.lt_of_lt_of_le (x.lt q) e) (Nat.lt_irrefl _)
theorem HOk.kept (x:HOk P w H h) (k:∀ b u,h.get? b=some u->h'.get? b=some u):HOk P w H h':=λ a o e =>
 (x a o e).stay (λ b u _ q=>k b u q) (λ _ q=>q) λ _ _ q=>q
theorem HOk.laid (x:HOk P w H h) (k:∀ b u,h.get? b=some u->h'.get? b=some u) (hp:h.objs.size<=a) (new:Cp P w (upd H a o) h' a o):HOk P w (upd H a o) h':=λ b u e=>by
 have hn:=x.fresh hp
 by_cases hb:b=a
 ·subst hb;rw [Aq] at e;cases e;exact new
 ·rw [Ah hb] at e
  exact (x b u e).stay (λ c v _ q=>k c v q) (λ c q=>by rw [Ah (Aw q hn)];exact q) λ c xs q=>by rw [Ah (Aw q hn)];exact q
end

noncomputable def Rd (H:Hp) (a:Addr) (u:HO):Prop:=H a=some u\/∃ o,H a=some (.frz o u)
theorem Rd.ok {P:Program}{w:World}{H:Hp}{h:Heap}{a:Addr}{u:HO}(r:Rd H a u) (x:HOk P w H h):Cp P w H h a u:=by
 rcases r with r|⟨o,r⟩
 ·exact x a u r
 ·obtain⟨_,q⟩:=x a _ r
  exact q
noncomputable def Mut:Option HO->Prop
 | some (.lst _)=>True
 | some (.dK _)=>True
 | some (.dT _)=>True
 | some (.set _ _)=>True
 | some (.ins _ _ _)=>True
 | some (.ext _)=>True
 | _=>False
section
variable {P:Program}{w:World}{H:Hp}{h h':Heap}{x e:Addr}{o':HO}
theorem HOk.write (ok:HOk P w H h) (mu:Mut (H x)) (he:e=x\/H e=some (.own x)) (k:∀ b u,b≠e->h.get? b=some u->h'.get? b=some u) (heo:∃ u,h'.get? e=some u)
  (new:Cp P w (upd H x o') h' x o'):HOk P w (upd H x o') h':=λ b u q=>by
 have nown:∀ c y,H c=some (.own y)->c≠x:=λ c y r z=>by subst z;rw [r] at mu;exact mu
 have ntup:∀ c xs,H c=some (.tup xs)->c≠x:=λ c xs r z=>by subst z;rw [r] at mu;exact mu
 by_cases hb:b=x
 ·subst hb;rw [Aq] at q;cases q;exact new
 ·rw [Ah hb] at q
  by_cases hbe:b=e
  ·have q':H b=some (.own x):=by
    rcases he with z|z
    ·exact absurd (hbe.trans z) hb
    ·rw [hbe];exact z
   rw [q] at q';cases q'
   obtain⟨v,hv⟩:=heo
   exact⟨v,by rw [hbe];exact hv⟩
  ·refine (ok b u q).stay (λ c v hc r=>k c v ?_ r) (λ c r=>by rw [Ah (nown c b r)];exact r) λ c xs r=>by rw [Ah (ntup c xs r)];exact r
   rcases hc with rfl|hc
   ·exact hbe
   ·rintro rfl
    rcases he with z|z
    ·exact nown c b hc z
    ·rw [hc] at z;cases z;exact hb rfl
end

structure Un (fs ex:List Addr) (H H':Hp) (h h':Heap):Prop where
 keep:∀ b o,h.get? b=some o->H b=none->b∉fs->b∉ex->h'.get? b=some o
 slot:∀ b o,h.get? b=some o->H b=none->b∈fs->b∉ex->∃ sl,h'.get? b=some { o with slots:=sl }
 free:∀ b o,h.get? b=some o->H b=none->b∉ex->H' b=none
 there:∀ b o,h.get? b=some o->b∉ex->∃ o',h'.get? b=some o'
 tups:∀ b xs,H b=some (.tup xs)->H' b=some (.tup xs)
 frzs:∀ b o u,H b=some (.frz o u)->H' b=some (.frz o u)
 tbls:∀ b ps,H b=some (.tbl ps)->∃ more,H' b=some (.tbl (ps++more))
section
variable {fs fs' ex ex':List Addr}{H H1 H2:Hp}{h h1 h2 h':Heap}{a x e:Addr}{o:HO}
theorem Un.any (u:Un fs ex H H1 h h1) {b:Addr}{ob:Obj}(q:h.get? b=some ob) (n:H b=none) (hx:b∉ex):∃ sl,h1.get? b=some { ob with slots:=sl }:=by
 by_cases hb:b∈fs
 ·exact u.slot b ob q n hb hx
 ·exact⟨ob.slots,u.keep b ob q n hb hx⟩
theorem Un.kept (k:∀ b u,h.get? b=some u->h'.get? b=some u):Un fs ex H H h h' :=
 ⟨λ b ob q _ _ _=>k b ob q,λ b ob q _ _ _=>⟨ob.slots,k b ob q⟩,λ _ _ _ n _=>n,λ b ob q _=>⟨ob,k b ob q⟩,λ _ _ q=>q,λ _ _ _ q=>q,λ _ ps q=>⟨#[],by rw [q];simp⟩⟩
theorem Un.refl:Un fs ex H H h h:=Un.kept λ _ _ q=>q
theorem Un.laid (k:∀ b u,h.get? b=some u->h'.get? b=some u) (hp:h.objs.size<=a) (hn:H a=none):Un fs ex H (upd H a o) h h' where
 keep:=λ b u q _ _ _=>k b u q
 slot:=λ b u q _ _ _=>⟨u.slots,k b u q⟩
 free:=λ b u q n _=>by rw [Ah (Nat.ne_of_lt (Nat.lt_of_lt_of_le (Heap.lt_size q) hp))];exact n
 there:=λ b u q _=>⟨u,k b u q⟩
 tups:=λ b xs q=>by rw [Ah (Aw q hn)];exact q
 frzs:=λ b u xs q=>by rw [Ah (Aw q hn)];exact q
 tbls:=λ b ps q=>⟨#[],by rw [Ah (Aw q hn),q];simp⟩
theorem Un.write (mu:Mut (H x)) (he:e=x\/H e=some (.own x)) (k:∀ b u,b≠e->h.get? b=some u->h'.get? b=some u) (heo:∃ u,h'.get? e=some u):Un fs ex H (upd H x o) h h':=by
 have hx:∀ b,H b=none->b≠x:=λ b n z=>by subst z;rw [n] at mu;exact mu
 have hb:∀ b,H b=none->b≠e:=λ b n z=>by
  subst z
  rcases he with r|r
  ·exact hx b n r
  ·rw [n] at r;cases r
 have hm:∀ b u,H b=some u->¬ Mut (some u)->b≠x:=λ b u q nm z=>by subst z;rw [q] at mu;exact nm mu
 refine⟨λ b u q n _ _=>k b u (hb b n) q,λ b u q n _ _=>⟨u.slots,k b u (hb b n) q⟩,λ b u q n _=>by rw [Ah (hx b n)];exact n,λ b u q _=>?_,
  λ b xs q=>by rw [Ah (hm b _ q λ z=>z)];exact q,λ b u xs q=>by rw [Ah (hm b _ q λ z=>z)];exact q,λ b ps q=>⟨#[],by rw [Ah (hm b _ q λ z=>z),q];simp⟩⟩
 by_cases hbe:b=e
 ·subst hbe;exact heo
 ·exact⟨u,k b u hbe q⟩
end

noncomputable def trk (h:Heap) (H:Hp):List Addr:=(List.range h.objs.size).filter λ a=>(H a).isSome
noncomputable def Abt (h:Heap) (H:Hp):Heap:=PySem.W.hideAll h (trk h H)
theorem Zg (h:Heap) (H:Hp):(Abt h H).objs.size=h.objs.size:=PySem.W.hideAll_size _ _
theorem Abq {h:Heap}{H:Hp}{b:Addr}{o:Obj}(e:h.get? b=some o) (n:H b=none):(Abt h H).get? b=some o :=
 PySem.W.hideAll_get _ e λ hm=>by
  have q:(H b).isSome=true:=(List.mem_filter.mp hm).2
  rw [n] at q;simp at q
theorem Af9 {h:Heap}{H:Hp}{b:Addr}{o:Obj}(e:(Abt h H).get? b=some o):h.get? b=some o/\H b=none:=by
 have e':h.get? b=some o:=PySem.W.of_hideAll (trk h H) e
 refine⟨e',?_⟩
 cases q:H b with
 | none=>rfl
 | some x =>
  have hm:b∈trk h H:=List.mem_filter.mpr ⟨List.mem_range.mpr (Heap.lt_size e'),by simp [q]⟩
  have z:(Abt h H).get? b=none:=PySem.W.hideAll_none (trk h H) hm
  rw [z] at e;cases e

noncomputable def Lk (g h:Heap) (L:Addr):List (Addr × Obj):=(List.range h.objs.size).filterMap λ a=>if a=L\/(g.get? a).isSome=true then none else (h.get? a).map λ o=>(a,o)
theorem Sw {g h:Heap}{L a:Addr}{o:Obj}(h1:a≠L) (h2:g.get? a=none) (h3:h.get? a=some o):(a,o)∈Lk g h L :=
 List.mem_filterMap.mpr ⟨a,List.mem_range.mpr (Heap.lt_size h3),by simp [h1,h2,h3]⟩
theorem Mp {g h:Heap}{L:Addr}{p:Addr × Obj}(hp:p∈Lk g h L):p.1≠L/\g.get? p.1=none/\h.get? p.1=some p.2:=by
 obtain⟨b,_,e⟩:=List.mem_filterMap.mp hp
 split at e
 ·cases e
 ·rename_i hn
  cases q:h.get? b with
  | none=>rw [q] at e;simp at e
  | some u =>
   rw [q] at e
   simp only [Option.map_some,Option.some.injEq] at e
   subst e
   refine⟨λ z=>hn (.inl z),?_,q⟩
   show g.get? b=none
   cases r:g.get? b with
   | none=>rfl
   | some v=>exact (hn (.inr (by simp [r]))).elim
noncomputable def rest (g h:Heap) (L d:Addr):List (Addr × Obj):=(Lk g h L).filter λ p=>decide (p.1≠d)
theorem Aa3 {g h:Heap}{L:Addr}:News g L h (Lk g h L):=λ p hp=>let ⟨a,b,c⟩:=Mp hp;⟨c,a,b⟩
end L2

namespace L2
open PySem PySem.Spec PyProof.Rows

structure Mod (K:PySem.W.Frag) (mg:Str->Option Value) (base:Heap):Prop where
 kin:K.In base
 glob:base.Ns mainGlobals mg
 blt:∃ mb,base.Ns builtinsNs mb/\∀ x:Str,x≠"__name__"->mb x=bootBuiltins x
 nolimit:base.NoLimit

structure Cx where
 prog:Program
 w:World
 K:PySem.W.Frag
 mg:Str->Option Value
 base:Heap
 A:Around
 N:List Str
 s₀:Shared
 H₀:Hp
 env:Env
 outer:List Env
 stack:List Env
 ex:List Addr
 fn:Str->Bool
 calm:Bool
 pn:List (Addr × Obj)
 xe:Value->Shared->Prop
noncomputable def frs (l:List Env):List Addr:=l.filterMap (·.frame)
noncomputable abbrev Cx.fs (X:Cx):List Addr:=frs X.outer

noncomputable def Vis (sc:Scope) (x:Str):Prop:=sc.names.lookup x=some .local\/sc.names.lookup x=some .cell\/sc.names.lookup x=some .free
noncomputable def Loc (sc:Scope) (x:Str):Prop:=sc.names.lookup x=some .local\/sc.names.lookup x=some .cell
noncomputable def Look (env:Env) (h:Heap) (m:Str->Option Value) (x:Str) (u:Value):Prop :=
 (env.kindOf x=some .local/\m x=some u)\/((env.kindOf x=some .cell\/env.kindOf x=some .free)/\∃ c,env.cells.lookup x=some c/\h.IsCell c (some u))

structure Cx.Ok (X:Cx):Prop where
 mod:Mod X.K X.mg X.base
 kind:X.env.scope.kind=.function
 glob:X.env.globals=mainGlobals
 blt:X.env.builtins=builtinsNs
 above:X.s₀.heap.objs.size<=X.env.locals
 inj:∀ x y c,X.env.cells.lookup x=some c->X.env.cells.lookup y=some c->x=y
 has:∀ x,(X.env.kindOf x=some .cell\/X.env.kindOf x=some .free)->∃ c,X.env.cells.lookup x=some c
 cab:∀ x c,X.fn x=true->X.env.cells.lookup x=some c->X.s₀.heap.objs.size<=c
 hd:X.calm=true->X.A.handled=none
 frames:X.A.frames=some X.stack
 stk:X.stack=X.outer\/(X.stack=X.env :: X.outer/\X.env.frame=some X.env.locals)
 exf:∀ b∈X.ex,b≠X.env.locals/\∀ x c,X.env.cells.lookup x=some c->c≠b
 bs:∀ b o,X.base.get? b=some o->X.s₀.heap.get? b=some o/\X.H₀ b=none
 bsz:X.base.objs.size<=X.s₀.heap.objs.size
 noex:∀ b o,X.base.get? b=some o->b∉X.ex
 exfs:∀ b∈X.ex,b∉X.fs
 funs:X.s₀.heap.FunFrames X.base X.outer
 frf:∀ b∈X.fs,X.H₀ b=none

structure Inv (X:Cx) (pins:List (Addr × Obj)) (σ:List (Option V)) (H:Hp) (s:Shared):Prop where
 ok:X.Ok
 os:s.os=X.s₀.os
 bare:AllBare s.gens
 base:Un X.fs X.ex X.H₀ H X.s₀.heap s.heap
 loc:∃ m,s.heap.Ns X.env.locals m/\∀ (i:Nat) (x:Str) (v:V),X.N[i]?=some x->σ[i]?=some (some v)->Vis X.env.scope x->∃ u,RelV v u/\Look X.env s.heap m x u
 cell:∀ x c,X.env.cells.lookup x=some c->∃ v,s.heap.IsCell c v
 free:H X.env.locals=none
 freeC:∀ x c,X.env.cells.lookup x=some c->H c=none
 pin:∀ p∈X.pn++pins,s.heap.get? p.1=some p.2/\H p.1=none/\p.1≠X.env.locals/\p.1∉X.fs/\∀ v,p.2.data≠.cell v
 hok:HOk X.prog X.w H s.heap
 len:σ.length=X.N.length

section
variable {X:Cx}{pins:List (Addr × Obj)}{σ:List (Option V)}{H H':Hp}{s:Shared}{h':Heap}

theorem Cx.Ok.nofr (ok:X.Ok) {b:Addr}{o:Obj}(e:X.base.get? b=some o):b∉X.fs:=λ hb=>by
 have:=(ok.funs.mem hb).1
 rw [e] at this;cases this
theorem Inv.bs (I:Inv X pins σ H s):∀ b o,X.base.get? b=some o->s.heap.get? b=some o/\H b=none:=λ b o e =>
 ⟨I.base.keep b o (I.ok.bs b o e).1 (I.ok.bs b o e).2 (I.ok.nofr e) (I.ok.noex b o e),I.base.free b o (I.ok.bs b o e).1 (I.ok.bs b o e).2 (I.ok.noex b o e)⟩
theorem Inv.bk (I:Inv X pins σ H s):∀ b o,X.base.get? b=some o->s.heap.get? b=some o:=λ b o e=>(I.bs b o e).1
theorem Inv.mod (I:Inv X pins σ H s):Mod X.K X.mg X.base:=I.ok.mod
theorem Inv.kIn (I:Inv X pins σ H s):X.K.In s.heap:=I.ok.mod.kin.keeps I.bk
theorem Inv.fr (I:Inv X pins σ H s):∃ m,Fr X.base X.env.locals s.heap m :=
 let ⟨m,hn,_⟩:=I.loc
 ⟨m,hn,I.bk,Nat.le_trans I.ok.bsz I.ok.above⟩
theorem Inv.lt (I:Inv X pins σ H s):X.env.locals<s.heap.objs.size:=let ⟨_,hn,_⟩:=I.loc;hn.lt
theorem Inv.sz (I:Inv X pins σ H s):X.s₀.heap.objs.size<=s.heap.objs.size:=Nat.le_trans I.ok.above (Nat.le_of_lt I.lt)
theorem Inv.nofs (I:Inv X pins σ H s) {a:Addr}(h:s.heap.objs.size<=a):a∉X.fs:=λ hb=>by
 obtain⟨_,o,ho,_⟩:=I.ok.funs.mem hb
 exact absurd (Nat.lt_of_lt_of_le (Heap.lt_size ho) (Nat.le_trans I.sz h)) (Nat.lt_irrefl _)
theorem Inv.cne (I:Inv X pins σ H s):∀ x c,X.env.cells.lookup x=some c->c≠X.env.locals:=λ x c e z=>by
 obtain⟨v,o,ho,hd⟩:=I.cell x c e
 obtain⟨m,⟨o',es,ep,ho',hd',_⟩,_⟩:=I.loc
 rw [z,ho'] at ho;cases ho;rw [hd'] at hd;cases hd
theorem Inv.funs (I:Inv X pins σ H s):s.heap.FunFrames X.base X.outer:=by
 have all:∀ (l:List Env),(∀ b∈frs l,b∈X.fs)->X.s₀.heap.FunFrames X.base l->s.heap.FunFrames X.base l:=by
  intro l
  induction l with
  | nil=>intro _ _;trivial
  | cons env r ih =>
   intro hs hl
   obtain⟨hk,⟨L,o,hf,hn,ho,hd⟩,hr⟩:=hl
   have hL:L∈X.fs:=hs L (by unfold frs;rw [List.filterMap_cons,hf];exact List.mem_cons_self)
   obtain⟨sl,e⟩:=I.base.slot L o ho (I.ok.frf L hL) hL λ z=>I.ok.exfs L z hL
   exact⟨hk,⟨L,_,hf,hn,e,hd⟩,ih (λ b hb=>hs b (by unfold frs;rw [List.filterMap_cons,hf];exact List.mem_cons_of_mem _ hb)) hr⟩
 exact all X.outer (λ _ hb=>hb) I.ok.funs

theorem Inv.stack (I:Inv X pins σ H s):s.heap.FunFrames X.base X.stack:=by
 rcases I.ok.stk with e|⟨e,hf⟩
 ·rw [e];exact I.funs
 ·rw [e]
  obtain⟨m,hn,_⟩:=I.loc
  refine .cons (by rw [I.ok.kind];decide) hf hn ?_ I.funs
  exact Heap.get?_none_of_le (Nat.le_trans I.ok.bsz I.ok.above)
theorem Inv.stkSub (I:Inv X pins σ H s):∀ b∈frs X.stack,b∈X.env.locals :: X.fs:=λ b hb=>by
 rcases I.ok.stk with e|⟨e,hf⟩
 ·rw [e] at hb;exact List.mem_cons_of_mem _ hb
 ·rw [e] at hb
  unfold frs at hb
  rw [List.filterMap_cons,hf] at hb
  exact hb
theorem Inv.stkFree (I:Inv X pins σ H s):∀ b∈frs X.stack,H b=none:=λ b hb=>by
 rcases List.mem_cons.mp (I.stkSub b hb) with e|hb
 ·rw [e];exact I.free
 ·obtain⟨_,o,ho,_⟩:=I.ok.funs.mem hb
  exact I.base.free b o ho (I.ok.frf b hb) λ z=>I.ok.exfs b z hb

theorem Inv.step {g':Array GenState}{t':Nat}{d':Drawn}{ch:List Addr}(I:Inv X pins σ H s)
  (hch:∀ b∈ch,(b∈X.ex\/X.s₀.heap.objs.size<=b)/\b≠X.env.locals/\(∀ x c,X.env.cells.lookup x=some c->c≠b)/\∀ p∈X.pn++pins,p.1≠b)
  (keep:∀ b o,b≠X.env.locals->b∉X.fs->b∉ch->s.heap.get? b=some o->H b=none->h'.get? b=some o)
  (slot:∀ b o,b≠X.env.locals->b∈X.fs->b∉ch->s.heap.get? b=some o->H b=none->∃ sl,h'.get? b=some { o with slots:=sl }) (free:∀ b o,b∉ch->s.heap.get? b=some o->H b=none->H' b=none)
  (there:∀ b o,b∉ch->s.heap.get? b=some o->∃ o',h'.get? b=some o')
  (tups:∀ b xs,H b=some (.tup xs)->H' b=some (.tup xs)) (frzs:∀ b o u,H b=some (.frz o u)->H' b=some (.frz o u)) (tbls:∀ b ps,H b=some (.tbl ps)->∃ more,H' b=some (.tbl (ps++more)))
  (ns:∀ m,s.heap.Ns X.env.locals m->h'.Ns X.env.locals m) (hok:HOk X.prog X.w H' h') (hg:AllBare g') :
  Inv X pins σ H' { s with heap:=h',gens:=g',drawn:=d',toks:=t' }:=by
 have neL:∀ b o,X.s₀.heap.get? b=some o->b≠X.env.locals:=λ b o e=>Nat.ne_of_lt (Nat.lt_of_lt_of_le (Heap.lt_size e) I.ok.above)
 have neC:∀ b o,X.s₀.heap.get? b=some o->b∉X.ex->b∉ch:=λ b o e hx hb=>by
  rcases (hch b hb).1 with z|z
  ·exact hx z
  ·exact absurd (Nat.lt_of_lt_of_le (Heap.lt_size e) z) (Nat.lt_irrefl _)
 have cellK:∀ x c,X.env.cells.lookup x=some c->∀ v,s.heap.IsCell c v->h'.IsCell c v:=λ x c e v ⟨o,ho,hd⟩=>by
  have nch:c∉ch:=λ z=>(hch c z).2.2.1 x c e rfl
  by_cases hc:c∈X.fs
  ·obtain⟨sl,q⟩:=slot c o (I.cne x c e) hc nch ho (I.freeC x c e)
   exact⟨_,q,hd⟩
  ·exact⟨o,keep c o (I.cne x c e) hc nch ho (I.freeC x c e),hd⟩
 refine⟨I.ok,I.os,hg,⟨λ b o e n hb hx=>?_,λ b o e n hb hx=>?_,λ b o e n hx=>?_,λ b o e hx=>?_,λ b xs e=>tups b xs (I.base.tups b xs e),λ b o xs e=>frzs b o xs (I.base.frzs b o xs e),λ b ps e=>?_⟩,?_,λ x c e=>?_,?_,λ x c e=>?_,λ p hp=>?_,hok,I.len⟩
 ·exact keep b o (neL b o e) hb (neC b o e hx) (I.base.keep b o e n hb hx) (I.base.free b o e n hx)
 ·obtain⟨sl,e1⟩:=I.base.slot b o e n hb hx
  obtain⟨sl',e2⟩:=slot b _ (neL b o e) hb (neC b o e hx) e1 (I.base.free b o e n hx)
  exact⟨sl',e2⟩
 ·obtain⟨o',e1⟩:=I.base.there b o e hx
  exact free b o' (neC b o e hx) e1 (I.base.free b o e n hx)
 ·obtain⟨o',e1⟩:=I.base.there b o e hx
  exact there b o' (neC b o e hx) e1
 ·obtain⟨m1,e1⟩:=I.base.tbls b ps e
  obtain⟨m2,e2⟩:=tbls b _ e1
  exact⟨m1++m2,by rw [e2,Array.append_assoc]⟩
 ·obtain⟨m,hn,hl⟩:=I.loc
  refine⟨m,ns m hn,λ i x v e1 e2 e3=>?_⟩
  obtain⟨u,r,l⟩:=hl i x v e1 e2 e3
  refine⟨u,r,?_⟩
  rcases l with l|⟨k,c,e,z⟩
  ·exact .inl l
  ·exact .inr ⟨k,c,e,cellK x c e _ z⟩
 ·obtain⟨v,z⟩:=I.cell x c e
  exact⟨v,cellK x c e v z⟩
 ·obtain⟨m,⟨o,_,_,ho,_⟩,_⟩:=I.loc
  exact free _ o (λ z=>(hch _ z).2.1 rfl) ho I.free
 ·obtain⟨v,o,ho,hd⟩:=I.cell x c e
  exact free c o (λ z=>(hch c z).2.2.1 x c e rfl) ho (I.freeC x c e)
 ·obtain⟨e,n,ne,nf,d⟩:=I.pin p hp
  have nch:p.1∉ch:=λ z=>(hch p.1 z).2.2.2 p hp rfl
  exact⟨keep p.1 p.2 ne nf nch e n,free p.1 p.2 nch e n,ne,nf,d⟩
theorem Inv.un {t':Nat}(I:Inv X pins σ H s) (u:Un X.fs [] H H' s.heap h') (hok:HOk X.prog X.w H' h'):Inv X pins σ H' { s with heap:=h',toks:=t' }:=by
 obtain⟨m,⟨o,es,ep,ho,r⟩,_⟩:=id I.loc
 obtain⟨sl,hL⟩:=u.any ho I.free (by simp)
 exact I.step (g':=s.gens) (d':=s.drawn) (ch:=[]) (λ _ z=>nomatch z) (λ b o _ hb _ e n=>u.keep b o e n hb (by simp)) (λ b o _ hb _ e n=>u.slot b o e n hb (by simp)) (λ b o _ e n=>u.free b o e n (by simp)) (λ b o _ e=>u.there b o e (by simp)) u.tups u.frzs u.tbls (λ m' hm=>by
  obtain⟨o',es',ep',ho',r'⟩:=hm
  rw [ho] at ho';cases ho'
  exact⟨_,es',ep',hL,r'⟩) hok I.bare
theorem Inv.call {g':Array GenState}{t':Nat}{d':Drawn}{ch:List Addr}(I:Inv X pins σ H s) (u:Un (frs X.stack) ch H H' s.heap h') (hok:HOk X.prog X.w H' h') (hg:AllBare g')
  (hch:∀ b∈ch,(b∈X.ex\/X.s₀.heap.objs.size<=b)/\b≠X.env.locals/\(∀ x c,X.env.cells.lookup x=some c->c≠b)/\∀ p∈X.pn++pins,p.1≠b) :
  Inv X pins σ H' { s with heap:=h',gens:=g',drawn:=d',toks:=t' }:=by
 obtain⟨m,⟨o,es,ep,ho,r⟩,_⟩:=id I.loc
 obtain⟨sl,hL⟩:=u.any ho I.free λ z=>(hch _ z).2.1 rfl
 exact I.step (ch:=ch) hch (λ b o hL hb hc e n=>u.keep b o e n (λ z=>(List.mem_cons.mp (I.stkSub b z)).elim hL hb) hc) (λ b o _ _ hc e n=>u.any e n hc) (λ b o hc e n=>u.free b o e n hc) (λ b o hc e=>u.there b o e hc) u.tups u.frzs u.tbls (λ m' hm=>by
  obtain⟨o',es',ep',ho',r'⟩:=hm
  rw [ho] at ho';cases ho'
  exact⟨_,es',ep',hL,r'⟩) hok hg
theorem Inv.turned {t':Nat}{it:Addr}(I:Inv X pins σ H s) (k:∀ b o,b≠it->s.heap.get? b=some o->h'.get? b=some o) (hn:H it=none) (hL:it≠X.env.locals)
  (h1:it∈X.ex\/X.s₀.heap.objs.size<=it) (h2:∀ x c,X.env.cells.lookup x=some c->c≠it) (h3:∀ p∈X.pn++pins,p.1≠it):Inv X pins σ H { s with heap:=h',toks:=t' }:=by
 have nit:∀ b u,H b=some u->b≠it:=λ b u e z=>by rw [z,hn] at e;cases e
 refine I.step (g':=s.gens) (d':=s.drawn) (ch:=[it]) (λ b hb=>?_) (λ b o _ _ hc e _=>k b o (λ z=>hc (by simp [z])) e) (λ b o _ _ hc e _=>⟨o.slots,k b o (λ z=>hc (by simp [z])) e⟩) (λ _ _ _ _ n=>n)
  (λ b o hc e=>⟨o,k b o (λ z=>hc (by simp [z])) e⟩) (λ _ _ e=>e) (λ _ _ _ e=>e) (λ b ps e=>⟨#[],by rw [e];simp⟩) (λ m hm=>?_) (λ b u e=>?_) I.bare
 ·have e:b=it:=by simpa using hb
  subst e
  exact⟨h1,hL,h2,h3⟩
 ·obtain⟨o,es,ep,ho,r⟩:=hm
  exact⟨o,es,ep,k _ o (Ne.symm hL) ho,r⟩
 ·refine (I.hok b u e).stay (λ c v hc q=>k c v ?_ q) (λ _ q=>q) λ _ _ q=>q
  rcases hc with z|z
  ·rw [z];exact nit b u e
  ·exact nit c _ z
theorem Inv.tok (I:Inv X pins σ H s) (t:Nat):Inv X pins σ H { s with toks:=t }:=I.un (h':=s.heap) (t':=t) Un.refl I.hok
theorem Inv.kept {t':Nat}(I:Inv X pins σ H s) (k:∀ b u,s.heap.get? b=some u->h'.get? b=some u):Inv X pins σ H { s with heap:=h',toks:=t' }:=I.un (Un.kept k) (I.hok.kept k)
theorem Inv.laid {a:Addr}{o:HO}{t':Nat}(I:Inv X pins σ H s) (k:∀ b u,s.heap.get? b=some u->h'.get? b=some u) (hp:s.heap.objs.size<=a) (new:Cp X.prog X.w (upd H a o) h' a o) :
  Inv X pins σ (upd H a o) { s with heap:=h',toks:=t' }:=I.un (Un.laid k hp (I.hok.fresh hp)) (I.hok.laid k hp new)
theorem Inv.write {x e:Addr}{o:HO}{t':Nat}(I:Inv X pins σ H s) (mu:Mut (H x)) (he:e=x\/H e=some (.own x)) (k:∀ b u,b≠e->s.heap.get? b=some u->h'.get? b=some u) (heo:∃ u,h'.get? e=some u)
  (new:Cp X.prog X.w (upd H x o) h' x o):Inv X pins σ (upd H x o) { s with heap:=h',toks:=t' }:=I.un (Un.write mu he k heo) (I.hok.write mu he k heo new)
theorem Inv.pins_of {pins':List (Addr × Obj)}(I:Inv X pins σ H s) (h:∀ p∈pins',s.heap.get? p.1=some p.2/\H p.1=none/\p.1≠X.env.locals/\p.1∉X.fs/\∀ v,p.2.data≠.cell v):Inv X pins' σ H s :=
 ⟨I.ok,I.os,I.bare,I.base,I.loc,I.cell,I.free,I.freeC,λ p hp=>(List.mem_append.mp hp).elim (λ z=>I.pin p (List.mem_append_left _ z)) (h p),I.hok,I.len⟩

theorem Og {N:List Str}(hN:N.Nodup) {i j:Nat}{x:Str}(a:N[i]?=some x) (b:N[j]?=some x):i=j:=by
 obtain⟨h1,e1⟩:=List.getElem?_eq_some_iff.mp a
 obtain⟨h2,e2⟩:=List.getElem?_eq_some_iff.mp b
 exact (List.getElem_inj hN).mp (e1.trans e2.symm)

theorem Yc {M:Model}{A:Around}{E:Value->Shared->Prop}{i:Nat}{x:Str}{v:V}{u:Value}{Q:Unit->Shared->Prop}(I:Inv X pins σ H s) (hN:X.N.Nodup) (hi:X.N[i]?=some x) (hx:Loc X.env.scope x) (r:RelV v u)
  (h:∀ s',Inv X pins (σ.set i (some v)) H s'->(∃ a,Heap.SameBut a s.heap s'.heap/\(a=X.env.locals\/X.env.cells.lookup x=some a))->Q () s') (hf:X.fn x=true\/X.env.scope.names.lookup x=some .local:=by first|exact .inl rfl|exact .inr rfl|assumption):wpAny M A (storeName X.env x u) Q E s:=by
 obtain⟨m,hn,hl⟩:=id I.loc
 have hcls:(X.env.scope.kind == .class || (X.env.scope.kind == .module && X.env.locals != X.env.globals))=false:=by rw [I.ok.kind];rfl
 have hiσ:i<σ.length:=by rw [I.len];exact (List.getElem?_eq_some_iff.mp hi).1
 have cne:=I.cne
 have tracked:∀ {a:Addr} {h':Heap},(∃ o,s.heap.get? a=some o/\H a=none)->Heap.SameBut a s.heap h'->HOk X.prog X.w H h':=λ {a h'} ha hs b ob e=>by
  obtain⟨_,_,hfree⟩:=ha
  refine (I.hok b ob e).stay (λ c w' hc q=>(hs.2 c ?_).trans q) (λ _ q=>q) λ _ _ q=>q
  rintro rfl
  rcases hc with rfl|hc
  ·rw [hfree] at e;cases e
  ·rw [hfree] at hc;cases hc
 rcases hx with hk|hk
 ·refine wpAny_storeName_local hk hn (λ h' hn' hs=>?_) hcls
  obtain⟨oL,_,_,hoL,_⟩:=id hn
  refine h _ ⟨I.ok,I.os,I.bare,⟨λ b o e n hb hx=>?_,λ b o e n hb hx=>?_,I.base.free,λ b o e hx=>?_,I.base.tups,I.base.frzs,I.base.tbls⟩,⟨_,hn',λ j y v' e1 e2 e3=>?_⟩,λ y c e=>?_,I.free,I.freeC,λ p hp=>?_,tracked ⟨oL,hoL,I.free⟩ hs,by simpa using I.len⟩ ⟨_,hs,.inl rfl⟩
  ·exact (hs.2 b (Nat.ne_of_lt (Nat.lt_of_lt_of_le (Heap.lt_size e) I.ok.above))).trans (I.base.keep b o e n hb hx)
  ·obtain⟨sl,e1⟩:=I.base.slot b o e n hb hx
   exact⟨sl,(hs.2 b (Nat.ne_of_lt (Nat.lt_of_lt_of_le (Heap.lt_size e) I.ok.above))).trans e1⟩
  ·obtain⟨o',e1⟩:=I.base.there b o e hx
   exact⟨o',(hs.2 b (Nat.ne_of_lt (Nat.lt_of_lt_of_le (Heap.lt_size e) I.ok.above))).trans e1⟩
  ·by_cases hj:j=i
   ·subst hj
    rw [hi] at e1;cases e1
    rw [List.getElem?_set_self hiσ] at e2
    cases e2
    exact⟨u,r,.inl ⟨hk,by simp⟩⟩
   ·rw [List.getElem?_set_ne (Ne.symm hj)] at e2
    obtain⟨u',r',q⟩:=hl j y v' e1 e2 e3
    refine⟨u',r',?_⟩
    rcases q with ⟨k,e⟩|⟨k,c,e,z⟩
    ·refine .inl ⟨k,?_⟩
     have:y≠x:=λ e=>hj (Og hN e1 (e ▸ hi))
     simp [this,e]
    ·exact .inr ⟨k,c,e,z.sameBut hs (cne y c e)⟩
  ·obtain⟨w',z⟩:=I.cell y c e
   exact⟨w',z.sameBut hs (cne y c e)⟩
  ·obtain⟨e,n,ne,nf,d⟩:=I.pin p hp
   exact⟨(hs.2 p.1 ne).trans e,n,ne,nf,d⟩
 ·have hfn:X.fn x=true:=by
   rcases hf with z|z
   ·exact z
   ·rw [z] at hk;cases hk
  obtain⟨c,hc⟩:=I.ok.has x (.inl hk)
  obtain⟨w',z⟩:=I.cell x c hc
  refine wpAny_storeName_cell I.ok.kind hk hc z (λ h' hc' hs=>?_)
  obtain⟨oc,hoc,hocd⟩:=id z
  refine h { s with heap:=h' } ⟨I.ok,I.os,I.bare,⟨λ b o e n hb hx=>?_,λ b o e n hb hx=>?_,I.base.free,λ b o e hx=>?_,I.base.tups,I.base.frzs,I.base.tbls⟩,⟨m,hn.sameBut hs (Ne.symm (cne x c hc)),λ j y v' e1 e2 e3=>?_⟩,λ y c' e=>?_,I.free,I.freeC,λ p hp=>?_,tracked ⟨oc,hoc,I.freeC x c hc⟩ hs,by simpa using I.len⟩ ⟨c,hs,.inr hc⟩
  ·exact (hs.2 b (Nat.ne_of_lt (Nat.lt_of_lt_of_le (Heap.lt_size e) (I.ok.cab x c hfn hc)))).trans (I.base.keep b o e n hb hx)
  ·obtain⟨sl,e1⟩:=I.base.slot b o e n hb hx
   exact⟨sl,(hs.2 b (Nat.ne_of_lt (Nat.lt_of_lt_of_le (Heap.lt_size e) (I.ok.cab x c hfn hc)))).trans e1⟩
  ·obtain⟨o',e1⟩:=I.base.there b o e hx
   exact⟨o',(hs.2 b (Nat.ne_of_lt (Nat.lt_of_lt_of_le (Heap.lt_size e) (I.ok.cab x c hfn hc)))).trans e1⟩
  ·by_cases hj:j=i
   ·subst hj
    rw [hi] at e1;cases e1
    rw [List.getElem?_set_self hiσ] at e2
    cases e2
    exact⟨u,r,.inr ⟨.inl hk,c,hc,hc'⟩⟩
   ·rw [List.getElem?_set_ne (Ne.symm hj)] at e2
    obtain⟨u',r',q⟩:=hl j y v' e1 e2 e3
    refine⟨u',r',?_⟩
    rcases q with q|⟨k,c',e,z'⟩
    ·exact .inl q
    ·refine .inr ⟨k,c',e,z'.sameBut hs ?_⟩
     rintro rfl
     exact hj (Og hN e1 (I.ok.inj _ _ _ e hc ▸ hi))
  ·by_cases hcc:c'=c
   ·subst hcc;exact⟨_,hc'⟩
   ·obtain⟨w2,z2⟩:=I.cell y c' e
    exact⟨w2,z2.sameBut hs hcc⟩
  ·obtain⟨e,n,ne,nf,d⟩:=I.pin p hp
   refine⟨(hs.2 p.1 ?_).trans e,n,ne,nf,d⟩
   intro q
   rw [q,hoc] at e
   have q':oc=p.2:=Option.some.inj e
   exact d w' (by rw [<-q'];exact hocd)
theorem Oe {M:Model}{A:Around}{E:Value->Shared->Prop}{i:Nat}{x:Str}{v:V}{u:Value}{Q:Unit->Shared->Prop}(I:Inv X pins σ H s) (hN:X.N.Nodup) (hi:X.N[i]?=some x) (hx:Loc X.env.scope x) (r:RelV v u)
  (h:∀ s',Inv X pins (σ.set i (some v)) H s'->Q () s') (hf:X.fn x=true\/X.env.scope.names.lookup x=some .local:=by first|exact .inl rfl|exact .inr rfl|assumption):wpAny M A (storeName X.env x u) Q E s :=
 Yc I hN hi hx r (λ s' I' _=>h s' I') hf
theorem Inv.call' {s':Shared}{ch:List Addr}(I:Inv X pins σ H s) (ho:s'.os=s.os) (u:Un (frs X.stack) ch H H' s.heap s'.heap) (hok:HOk X.prog X.w H' s'.heap) (hg:AllBare s'.gens)
  (hch:∀ b∈ch,(b∈X.ex\/X.s₀.heap.objs.size<=b)/\b≠X.env.locals/\(∀ x c,X.env.cells.lookup x=some c->c≠b)/\∀ p∈X.pn++pins,p.1≠b):Inv X pins σ H' s':=by
 obtain⟨h',g',d',t',o'⟩:=s'
 have e:o'=s.os:=ho
 subst e
 exact I.call (g':=g') (t':=t') (d':=d') u hok hg hch
end

noncomputable abbrev XK:=Value->Option Addr->Hp->Prop
noncomputable abbrev St:=List (Option V)
noncomputable abbrev VK:=V->Hp->Prop
noncomputable abbrev TE:=St->Hp->VK->Prop
noncomputable abbrev TT:=St->Hp->(Bool->Hp->Prop)->Prop
noncomputable abbrev TA:=St->Hp->(List V->Hp->Prop)->Prop
structure Ends where
 nx:St->Hp->Prop
 rt:VK
 bk:St->Hp->Prop:=λ _ _=>False
 ct:St->Hp->Prop:=λ _ _=>False
noncomputable abbrev TS:=Ends->St->Hp->Prop

noncomputable def EP (X:Cx) (pins:List (Addr × Obj)) (σ:St) (Q:VK) (u:Value) (s':Shared):Prop:=∃ v H',Inv X pins σ H' s'/\RelV v u/\Q v H'
noncomputable def TP (X:Cx) (pins:List (Addr × Obj)) (σ:St) (Q:Bool->Hp->Prop) (b:Bool) (s':Shared):Prop:=∃ H',Inv X pins σ H' s'/\Q b H'
noncomputable def AP (X:Cx) (pins:List (Addr × Obj)) (σ:St) (Q:List V->Hp->Prop) (us:List Value) (s':Shared):Prop:=∃ vs H',Inv X pins σ H' s'/\Vals vs us/\Q vs H'
noncomputable def SP (X:Cx) (pins:List (Addr × Obj)) (D:Ends) (f:Flow) (s':Shared):Prop :=
 match f with
 | .next=>∃ σ' H',Inv X pins σ' H' s'/\D.nx σ' H'
 | .brk=>∃ σ' H',Inv X pins σ' H' s'/\D.bk σ' H'
 | .cont=>∃ σ' H',Inv X pins σ' H' s'/\D.ct σ' H'
 | .ret u=>∃ v σ' H',Inv X pins σ' H' s'/\RelV v u/\D.rt v H'

noncomputable def PE (X:Cx) (e:Expr) (t:TE):Prop :=
 ∀ (pins:List (Addr × Obj)) (s:Shared) (σ:St) (H:Hp) (Q:VK),Inv X pins σ H s->t σ H Q->wpAny (model X.prog X.w) X.A (eval e X.env) (EP X pins σ Q) X.xe s
noncomputable def PT (X:Cx) (e:Expr) (t:TT):Prop :=
 ∀ (pins:List (Addr × Obj)) (s:Shared) (σ:St) (H:Hp) (Q:Bool->Hp->Prop),Inv X pins σ H s->t σ H Q->wpAny (model X.prog X.w) X.A (isTrue e X.env (eval e X.env)) (TP X pins σ Q) X.xe s
noncomputable def PW (X:Cx) (e:Expr) (t:TT):Prop :=
 ∀ (whole:Sem Value) (pins:List (Addr × Obj)) (s:Shared) (σ:St) (H:Hp) (Q:Bool->Hp->Prop),Inv X pins σ H s->t σ H Q->wpAny (model X.prog X.w) X.A (isTrue e X.env whole) (TP X pins σ Q) X.xe s
theorem PW.pt {X:Cx}{e:Expr}{t:TT}(h:PW X e t):PT X e t:=h _
noncomputable def PA (X:Cx) (es:List Expr) (t:TA):Prop :=
 ∀ (pos:Pos) (pins:List (Addr × Obj)) (s:Shared) (σ:St) (H:Hp) (Q:List V->Hp->Prop),Inv X pins σ H s->t σ H Q->wpAny (model X.prog X.w) X.A (spliced (backTo pos (starEach es X.env))) (AP X pins σ Q) X.xe s
noncomputable def PS (X:Cx) (st:Stmt) (t:TS):Prop :=
 ∀ (pins:List (Addr × Obj)) (s:Shared) (σ:St) (H:Hp) (D:Ends),Inv X pins σ H s->t D σ H->wpAny (model X.prog X.w) X.A (exec st X.env) (SP X pins D) X.xe s
noncomputable def PSs (X:Cx) (st:List Stmt) (t:TS):Prop :=
 ∀ (pins:List (Addr × Obj)) (s:Shared) (σ:St) (H:Hp) (D:Ends),Inv X pins σ H s->t D σ H->wpAny (model X.prog X.w) X.A (execs st X.env) (SP X pins D) X.xe s
theorem thn {α:Type}{t:Sem α}{Q Q':α->Shared->Prop}{M:Model}{A:Around}{E:Value->Shared->Prop}{s:Shared}(h:wpAny M A t Q E s) (hQ:∀ a s,Q a s->Q' a s):wpAny M A t Q' E s:=wpAny_mono h hQ λ _ _ x=>x
end L2

namespace L2
open PySem PySem.Spec PyProof.Rows
section
variable {X:Cx}

noncomputable def Apf (i:Nat):TE:=λ σ H Q=>∃ v,σ[i]?=some (some v)/\Q v H
noncomputable def tC (v:V):TE:=λ _ H Q=>Q v H
theorem Mx {i:Nat}{x:Str}{pos:Pos}(hN:X.N[i]?=some x) (hv:Vis X.env.scope x) (hd:(x == ("__debug__":Str))=false:=by decide) (hcd:(x == ("__classdict__":Str))=false:=by decide):PE X (.Name x pos) (Apf i):=by
 intro pins s σ H Q I h
 obtain⟨v,e,h⟩:=h
 obtain⟨m,hn,hl⟩:=I.loc
 obtain⟨u,r,l⟩:=hl i x v hN e hv
 have fin:EP X pins σ Q u s:=⟨v,H,I,r,h⟩
 rcases l with ⟨hk,hm⟩|⟨hk,c,hc,hcell⟩
 ·exact wpAny_Name (wpAny_loadName_local I.ok.kind hk hn hm fin) hd
 ·rcases hk with hk|hk
  ·exact wpAny_Name (wpAny_loadName_cell I.ok.kind hk hc hcell fin) hd
  ·exact wpAny_Name (wpAny_loadName_free I.ok.kind hk hc hcell fin hcd) hd
theorem Ady {i j pos}:PE X (.Constant (.int i) j pos) (tC (.int i)):=λ _ _ _ H _ I h=>wpAny_Constant_int ⟨.int i,H,I.tok _,⟨_,rfl⟩,h⟩
theorem Ak9 {b j pos}:PE X (.Constant (.bool b) j pos) (tC (.bl b)):=λ _ _ _ H _ I h=>Constant_bool ⟨.bl b,H,I,rfl,h⟩
theorem Ahs {j pos}:PE X (.Constant .none j pos) (tC .non):=λ _ _ _ H _ I h=>Constant_none ⟨.non,H,I,rfl,h⟩
theorem Uo {x j pos}:PE X (.Constant (.str x) j pos) (tC (.str x)):=λ _ _ _ H _ I h=>Calls.Constant_str ⟨.str x,H,I.tok _,⟨_,rfl⟩,h⟩

noncomputable def Gl (X:Cx) (x:Str):Prop:=X.env.kindOf x=some .globalImplicit
theorem Kz {E:Value->Shared->Prop}{pins:List (Addr × Obj)}{s:Shared}{σ:St}{H:Hp}{x:Str}{u:Value}{pos:Pos}{Q:Value->Shared->Prop}(I:Inv X pins σ H s) (hg:Gl X x) (hm:X.mg x=some u) (h:Q u s)
  (hd:(x == ("__debug__":Str))=false:=by decide):wpAny (model X.prog X.w) X.A (eval (.Name x pos) X.env) Q E s :=
 Calls.Name_function_global I.ok.kind hg (Calls.loadGlobal_global (by rw [I.ok.glob];exact I.mod.glob.keeps I.bk) hm h) hd
theorem Ls {E:Value->Shared->Prop}{pins:List (Addr × Obj)}{s:Shared}{σ:St}{H:Hp}{x:Str}{u:Value}{pos:Pos}{Q:Value->Shared->Prop}(I:Inv X pins σ H s) (hg:Gl X x) (hm:X.mg x=none) (hv:bootBuiltins x=some u) (h:Q u s)
  (hn:x≠"__name__":=by decide) (hd:(x == ("__debug__":Str))=false:=by decide):wpAny (model X.prog X.w) X.A (eval (.Name x pos) X.env) Q E s:=by
 obtain⟨mb,h1,h2⟩:=I.mod.blt
 exact Calls.Name_function_global I.ok.kind hg (Calls.loadGlobal_builtin (by rw [I.ok.glob];exact I.mod.glob.keeps I.bk) hm (by rw [I.ok.blt];exact h1.keeps I.bk) ((h2 x hn).trans hv) h) hd
theorem Kq {x:Str}{v:V}{u:Value}{pos:Pos}(hg:Gl X x) (hm:X.mg x=some u) (r:RelV v u) (hd:(x == ("__debug__":Str))=false:=by decide):PE X (.Name x pos) (tC v) :=
 λ _ _ _ H _ I h=>Kz I hg hm ⟨v,H,I,r,h⟩ hd
theorem Yh {x:Str}{v:V}{u:Value}{pos:Pos}(hg:Gl X x) (hm:X.mg x=none) (hv:bootBuiltins x=some u) (r:RelV v u) (hn:x≠"__name__":=by decide) (hd:(x == ("__debug__":Str))=false:=by decide):PE X (.Name x pos) (tC v) :=
 λ _ _ _ H _ I h=>Ls I hg hm hv ⟨v,H,I,r,h⟩ hn hd

variable {a b:Expr}{ta tb:TE}{pos:Pos}

noncomputable def PC (X:Cx) (op:CmpOp) (a b:Expr) (t:TE):Prop :=
 ∀ (pins:List (Addr × Obj)) (s:Shared) (σ:St) (H:Hp) (Q:VK),Inv X pins σ H s->t σ H Q →
  wpAny (model X.prog X.w) X.A (eval a X.env) (λ v s₁=>wpAny (model X.prog X.w) X.A (eval b X.env) (λ u s₂=>wpAny (model X.prog X.w) X.A (compareOp op v u) (EP X pins σ Q) X.xe s₂) X.xe s₁) X.xe s
theorem Aar (b:Expr) {op:CmpOp}(h:op≠.In) (h2:op≠.NotIn):behindInMarks op b=false:=by
 have e1:(op == CmpOp.In)=false:=by cases op<;>first|rfl|exact absurd rfl h
 have e2:(op == CmpOp.NotIn)=false:=by cases op<;>first|rfl|exact absurd rfl h2
 cases b<;>simp [behindInMarks,e1,e2]
noncomputable def Apg (ta:TE):TE:=λ σ H Q=>ta σ H λ x H1=>Q (.bl (decide (x=.non))) H1
theorem RelV.none_iff {x:V}{v:Value}(r:RelV x v):(v == Value.none)=decide (x=.non):=by
 cases x with
 | non=>cases r;rfl
 | bl _=>cases r;rfl
 | int _=>obtain⟨t,rfl⟩:=r;rfl
 | str _=>obtain⟨t,rfl⟩:=r;rfl
 | byt _=>obtain⟨t,rfl⟩:=r;rfl
 | flt _=>obtain⟨t,rfl⟩:=r;rfl
 | ref _=>cases r;rfl
 | ty _=>cases r;rfl
theorem Ain {j pos'}(ha:PE X a ta):PC X .Is a (.Constant .none j pos') (Apg ta):=by
 intro pins s σ H Q I h
 refine thn (ha pins s σ H _ I h) ?_
 rintro v s1 ⟨x,H1,I1,r1,q1⟩
 exact Constant_none (is_none_gen ⟨.bl _,H1,I1,by rw [r1.none_iff];rfl,q1⟩)
noncomputable def tB (t:TE):TT:=λ σ H Q=>t σ H λ x H1=>∃ c,x=.bl c/\Q c H1
theorem Y0 {op:CmpOp}{t:TE}(h:PC X op a b t) (h1:behindInMarks op b=false:=by first|exact Aar _ (by decide) (by decide)|rfl):PT X (.Compare a [op] [b] pos) (tB t):=by
 intro pins s σ H Q I hw
 refine wpAny_isTrue_Compare1 (thn (h pins s σ H _ I hw) λ v s1 h1=>thn h1 λ u s2 h2=>thn h2 ?_) h1
 rintro c s3 ⟨x,H1,I1,r1,q1⟩
 obtain⟨d,rfl,q⟩:=q1
 cases r1
 exact wpAny_truthy_bool ⟨H1,I1,q⟩
theorem Ade {e:Expr}{t:TE}(h:PE X e t) (he:∀ whole,isTrue e X.env whole=(do let v ← whole;standAt e.pos;holding [v] (truthy v)):=by intro _;rfl):PT X e (tB t):=by
 intro pins s σ H Q I hw
 refine isTrue_plain (thn (h pins s σ H _ I hw) ?_) (he _)
 rintro v s1 ⟨x,H1,I1,r1,q1⟩
 obtain⟨d,rfl,q⟩:=q1
 cases r1
 exact wpAny_truthy_bool ⟨H1,I1,q⟩

variable {tA tB':TT}{rest:List Expr}
noncomputable def Asg (t u:TT):TT:=λ σ H Q=>t σ H λ c H1=>if c=true then u σ H1 Q else Q false H1
noncomputable def tOr (t u:TT):TT:=λ σ H Q=>t σ H λ c H1=>if c=true then Q true H1 else u σ H1 Q
noncomputable def As2 (t:TT):TT:=λ σ H Q=>t σ H λ c H1=>Q (!c) H1
theorem Af1 (ha:PT X a tA):PW X (.BoolOp .And [a] pos) tA:=by
 intro wh pins s σ H Q I h
 refine isTrue_and (thn (ha pins s σ H Q I h) λ c s1 e=>?_)
 cases c with
 | true=>exact isTrue_and_nil e
 | false=>exact e
theorem Adl (ha:PT X a tA):PW X (.BoolOp .Or [a] pos) tA:=by
 intro wh pins s σ H Q I h
 refine isTrue_or (thn (ha pins s σ H Q I h) λ c s1 e=>?_)
 cases c with
 | false=>exact isTrue_or_nil e
 | true=>exact e
theorem Ag8 (ha:PT X a tA) (hb:PW X (.BoolOp .And (b :: rest) pos) tB'):PW X (.BoolOp .And (a :: b :: rest) pos) (Asg tA tB'):=by
 intro wh pins s σ H Q I h
 refine isTrue_and (thn (ha pins s σ H _ I h) ?_)
 rintro c s1 ⟨H1,I1,q1⟩
 cases c with
 | true=>exact hb wh pins s1 σ H1 Q I1 q1
 | false=>exact⟨H1,I1,q1⟩
theorem Aek (ha:PT X a tA) (hb:PW X (.BoolOp .Or (b :: rest) pos) tB'):PW X (.BoolOp .Or (a :: b :: rest) pos) (tOr tA tB'):=by
 intro wh pins s σ H Q I h
 refine isTrue_or (thn (ha pins s σ H _ I h) ?_)
 rintro c s1 ⟨H1,I1,q1⟩
 cases c with
 | true=>exact⟨H1,I1,q1⟩
 | false=>exact hb wh pins s1 σ H1 Q I1 q1
theorem Adu (ha:PT X a tA):PT X (.UnaryOp .Not a pos) (As2 tA):=by
 intro pins s σ H Q I h
 exact isTrue_not (ha pins s σ H (λ c H1=>Q (!c) H1) I h)
noncomputable def Alz (ta tb:TE):TE:=λ σ H Q=>ta σ H λ x H1=>∃ c,x=.bl c/\if c=true then tb σ H1 Q else Q (.bl false) H1
noncomputable def Alp (ta:TE):TE:=λ σ H Q=>ta σ H λ x H1=>∃ c,x=.bl c/\Q (.bl (!c)) H1
theorem Ajy {op}{t:TE}(h:PE X a t):PE X (.BoolOp op [a] pos) t:=λ pins s σ H Q I hw=>BoolOp_one (h pins s σ H Q I hw)
theorem Ahu (ha:PE X a ta) (hb:PE X (.BoolOp .And (b :: rest) pos) tb):PE X (.BoolOp .And (a :: b :: rest) pos) (Alz ta tb):=by
 intro pins s σ H Q I h
 refine BoolOp_and (thn (ha pins s σ H _ I h) ?_)
 rintro v s1 ⟨x,H1,I1,r1,q1⟩
 obtain⟨c,rfl,q1⟩:=q1
 cases r1
 refine wpAny_truthy_bool ?_
 cases c with
 | true=>exact hb pins s1 σ H1 Q I1 q1
 | false=>exact⟨.bl false,H1,I1,rfl,q1⟩
theorem Ais (ha:PE X a ta):PE X (.UnaryOp .Not a pos) (Alp ta):=by
 intro pins s σ H Q I h
 refine UnaryOp_ (thn (ha pins s σ H _ I h) ?_)
 rintro v s1 ⟨x,H1,I1,r1,q1⟩
 obtain⟨c,rfl,q1⟩:=q1
 cases r1
 exact not_of (wpAny_truthy_bool ⟨.bl (!c),H1,I1,rfl,q1⟩)
end
end L2

namespace L2
open PySem PySem.Spec PyProof.Rows

noncomputable def SqL (K:PySem.W.Frag) (H:Hp) (a:Addr) (xs:List V):Prop :=
 Rd H a (.lst xs) ∨
  ∃ (o:Obj) (its:Array Value) (n:Nat),K.lookup a=some o/\o.cls=.type "list"/\o.dict=none/\o.data=.seq its n/\its.size<=sizeLine/\Vals xs its.toList
noncomputable def SqT (K:PySem.W.Frag) (H:Hp) (a:Addr) (xs:List V):Prop :=
 Rd H a (.tup xs) ∨
  ∃ (o:Obj) (its:Array Value) (n:Nat),K.lookup a=some o/\o.cls=.type "tuple"/\o.data=.seq its n/\its.size<=sizeLine/\Vals xs its.toList
noncomputable def Ari:Value->Option V
 | .none=>some .non
 | .bool b=>some (.bl b)
 | .int i _=>some (.int i)
 | .str x _=>some (.str x)
 | .bytes b _=>some (.byt b)
 | .float b _=>some (.flt b)
 | .ref a=>some (.ref a)
 | .type n=>some (.ty n)
 | _=>none
theorem RelV.abs {x:V}{u:Value}(r:RelV x u):Ari u=some x:=by
 cases x with
 | non=>cases r;rfl
 | bl _=>cases r;rfl
 | int _=>obtain⟨t,rfl⟩:=r;rfl
 | str _=>obtain⟨t,rfl⟩:=r;rfl
 | byt _=>obtain⟨t,rfl⟩:=r;rfl
 | flt _=>obtain⟨t,rfl⟩:=r;rfl
 | ref _=>cases r;rfl
 | ty _=>cases r;rfl
theorem RelV.inj {x y:V}{u:Value}(r:RelV x u) (q:RelV y u):x=y:=Option.some.inj (r.abs.symm.trans q.abs)
theorem Vals.inj:∀ {xs ys:List V}{us:List Value},Vals xs us->Vals ys us->xs=ys
 | _,_,_,.nil,.nil=>rfl
 | _,_,_,.cons r t,.cons r' t'=>by rw [r.inj r',Vals.inj t t']
section
variable {X:Cx}{pins:List (Addr × Obj)}{σ:St}{H:Hp}{s:Shared}{a:Addr}{xs ys:List V}
theorem SqL.of {K:PySem.W.Frag}(h:H a=some (.lst xs)):SqL K H a xs:=.inl (.inl h)
theorem SqT.of {K:PySem.W.Frag}(h:H a=some (.tup xs)):SqT K H a xs:=.inl (.inl h)
theorem Inv.list (I:Inv X pins σ H s) (h:SqL X.K H a xs):∃ its:List Value,Vals xs its/\PlainL s.heap a its.toArray/\xs.length<=sizeLine:=by
 rcases h with h|⟨o,its,n,hk,hc,hd,hs,hz,r⟩
 ·obtain⟨z,its,n,r,e⟩:=h.ok I.hok
  exact⟨its,r,⟨_,n,e,rfl,rfl,rfl⟩,z⟩
 ·refine⟨its.toList,r,⟨o,n,I.kIn a o hk,hc,hd,by simpa using hs⟩,?_⟩
  have e:=r.length
  simp only [Array.length_toList] at e
  omega
theorem Inv.tuple (I:Inv X pins σ H s) (h:SqT X.K H a xs):∃ its:List Value,Vals xs its/\IsTup s.heap a its.toArray/\xs.length<=sizeLine:=by
 rcases h with h|⟨o,its,n,hk,hc,hs,hz,r⟩
 ·obtain⟨z,its,r,p⟩:=h.ok I.hok
  exact⟨its,r,p,z⟩
 ·refine⟨its.toList,r,⟨o,I.kIn a o hk,hc,n,by simpa using hs⟩,?_⟩
  have e:=r.length
  simp only [Array.length_toList] at e
  omega
theorem Inv.list_inj (I:Inv X pins σ H s) (h:SqL X.K H a xs) (h':SqL X.K H a ys):xs=ys:=by
 obtain⟨its,r,⟨o,n,e,_,_,d⟩,_⟩:=I.list h
 obtain⟨its',r',⟨o',n',e',_,_,d'⟩,_⟩:=I.list h'
 rw [e] at e';cases e'
 rw [d] at d'
 injection d' with d1 _
 have:its=its':=by simpa using congrArg Array.toList d1
 subst this
 exact r.inj r'
theorem Inv.tuple_inj (I:Inv X pins σ H s) (h:SqT X.K H a xs) (h':SqT X.K H a ys):xs=ys:=by
 obtain⟨its,r,⟨o,e,_,n,d⟩,_⟩:=I.tuple h
 obtain⟨its',r',⟨o',e',_,n',d'⟩,_⟩:=I.tuple h'
 rw [e] at e';cases e'
 rw [d] at d'
 injection d' with d1 _
 have:its=its':=by simpa using congrArg Array.toList d1
 subst this
 exact r.inj r'
end

noncomputable abbrev Cx.wish (X:Cx) (E:Value->Shared->Prop):Cx:={ X with xe:=E }
noncomputable abbrev Cx.nox (X:Cx):Cx:=X.wish λ _ _=>False
theorem Cx.Ok.wish {X:Cx}(ok:X.Ok) (E:Value->Shared->Prop):(X.wish E).Ok :=
 ⟨ok.mod,ok.kind,ok.glob,ok.blt,ok.above,ok.inj,ok.has,ok.cab,ok.hd,ok.frames,ok.stk,ok.exf,ok.bs,ok.bsz,ok.noex,ok.exfs,ok.funs,ok.frf⟩
theorem Cx.Ok.unwish {X:Cx}{E:Value->Shared->Prop}(ok:(X.wish E).Ok):X.Ok :=
 ⟨ok.mod,ok.kind,ok.glob,ok.blt,ok.above,ok.inj,ok.has,ok.cab,ok.hd,ok.frames,ok.stk,ok.exf,ok.bs,ok.bsz,ok.noex,ok.exfs,ok.funs,ok.frf⟩
section
variable {X:Cx}{pins:List (Addr × Obj)}{σ:St}{H:Hp}{s:Shared}{E:Value->Shared->Prop}
theorem Inv.wish (I:Inv X pins σ H s) (E:Value->Shared->Prop):Inv (X.wish E) pins σ H s:=⟨I.ok.wish E,I.os,I.bare,I.base,I.loc,I.cell,I.free,I.freeC,I.pin,I.hok,I.len⟩
theorem Inv.unwish (I:Inv (X.wish E) pins σ H s):Inv X pins σ H s:=⟨I.ok.unwish,I.os,I.bare,I.base,I.loc,I.cell,I.free,I.freeC,I.pin,I.hok,I.len⟩
theorem SP.unwish {D:Ends}{f:Flow}{s':Shared}(h:SP (X.wish E) pins D f s'):SP X pins D f s':=by
 cases f with
 | next=>obtain⟨σ',H',I,q⟩:=h;exact⟨σ',H',I.unwish,q⟩
 | brk=>obtain⟨σ',H',I,q⟩:=h;exact⟨σ',H',I.unwish,q⟩
 | cont=>obtain⟨σ',H',I,q⟩:=h;exact⟨σ',H',I.unwish,q⟩
 | ret u=>obtain⟨v,σ',H',I,r,q⟩:=h;exact⟨v,σ',H',I.unwish,r,q⟩
theorem PT.nox {e:Expr}{t:TT}(h:PT X.nox e t):PT X e t:=λ pins s σ H Q I hw =>
 wpAny_mono (h pins s σ H Q (I.wish _) hw) (λ _ _ ⟨H',I',q⟩=>⟨H',I'.unwish,q⟩) λ _ _ z=>False.elim z
theorem PSs.nox {st:List Stmt}{t:TS}(h:PSs X.nox st t):PSs X st t:=λ pins s σ H D I hw =>
 wpAny_mono (h pins s σ H D (I.wish _) hw) (λ _ _ q=>q.unwish) λ _ _ z=>False.elim z
end

section
variable {X:Cx}{st:Stmt}{rest:List Stmt}{t u:TS}{e:Expr}{te:TE}{pos:Pos}
noncomputable def Ak1:TS:=λ D σ H=>D.nx σ H
noncomputable def Aql (t u:TS):TS:=λ D σ H=>t { D with nx:=u D } σ H
theorem Xv:PSs X [] Ak1:=λ _ _ σ H _ I h=>wpAny_execs_nil ⟨σ,H,I,h⟩
theorem J1 (h1:PS X st t) (h2:PSs X rest u):PSs X (st :: rest) (Aql t u):=by
 intro pins s σ H D I h
 refine wpAny_execs_cons (thn (h1 pins s σ H { D with nx:=u D } I h) λ f s1 q=>?_)
 cases f with
 | next =>
  obtain⟨σ',H',I',q⟩:=q
  exact h2 pins s1 σ' H' D I' q
 | ret v=>exact q
 | brk=>exact q
 | cont=>exact q
theorem Afw (h1:PS X st t):PSs X [st] t:=by
 intro pins s σ H D I h
 refine wpAny_execs_cons (thn (h1 pins s σ H D I h) λ f s1 q=>?_)
 cases f with
 | next=>exact wpAny_execs_nil q
 | ret v=>exact q
 | brk=>exact q
 | cont=>exact q
theorem Inv.quiet {pins:List (Addr × Obj)}{σ:St}{H:Hp}{s:Shared}(I:Inv X pins σ H s):interactive X.env=false:=by simp [interactive,I.ok.kind]
noncomputable def Alm (te:TE):TS:=λ D σ H=>te σ H λ _ H1=>D.nx σ H1
theorem R5 (he:PE X e te) (hs:swapsWith e none pos.line X.env=pure false:=by rfl):PS X (.Expr e pos) (Alm te):=by
 intro pins s σ H D I h
 exact wpAny_Expr_any (thn (he pins s σ H _ I h) λ v s1 ⟨x,H1,I1,r1,q1⟩=>⟨σ,H1,I1,q1⟩) I.quiet hs
noncomputable def Apu (te:TE):TS:=λ D σ H=>te σ H D.rt
theorem Adi (he:PE X e te):PS X (.Return (some e) pos) (Apu te):=by
 intro pins s σ H D I h
 exact wpAny_Return_some (thn (he pins s σ H _ I h) λ v s1 ⟨x,H1,I1,r1,q1⟩=>⟨x,σ,H1,I1,r1,q1⟩)
noncomputable def Asz (c:TT) (t u:TS):TS:=λ D σ H=>c σ H λ b H1=>if b=true then t D σ H1 else u D σ H1
theorem Aee {c:Expr}{a b:List Stmt}{tc:TT}(hc:PT X c tc) (ha:PSs X a t) (hb:PSs X b u):PS X (.If c a b pos) (Asz tc t u):=by
 intro pins s σ H D I h
 refine wpAny_If (thn (hc pins s σ H _ I h) ?_)
 rintro d s1 ⟨H1,I1,q1⟩
 cases d with
 | true=>exact ha pins s1 σ H1 D I1 q1
 | false=>exact hb pins s1 σ H1 D I1 q1
noncomputable def Ur:TS:=λ _ _ _=>False
theorem Aa5:PS X st Ur:=λ _ _ _ _ _ _ h=>h.elim
theorem Jb {sts:List Stmt}:PSs X sts Ur:=λ _ _ _ _ _ _ h=>h.elim
end

noncomputable abbrev TG:=V->St->Hp->(St->Hp->Prop)->Prop
noncomputable abbrev TGs:=List V->St->Hp->(St->Hp->Prop)->Prop
noncomputable def PG (X:Cx) (target:Expr) (t:TG):Prop :=
 ∀ (pins:List (Addr × Obj)) (s:Shared) (σ:St) (H:Hp) (v:V) (u:Value) (Q:St->Hp->Prop),Inv X pins σ H s->RelV v u->t v σ H Q →
  wpAny (model X.prog X.w) X.A (assign target X.env u) (λ _ s'=>∃ σ' H',Inv X pins σ' H' s'/\Q σ' H') X.xe s
noncomputable def PGs (X:Cx) (ts:List Expr) (t:TGs):Prop :=
 ∀ (pins:List (Addr × Obj)) (s:Shared) (σ:St) (H:Hp) (vs:List V) (us:List Value) (Q:St->Hp->Prop),Inv X pins σ H s->Vals vs us->t vs σ H Q →
  wpAny (model X.prog X.w) X.A (assignInOrder ((assignEach ts X.env).map (·.2)) us) (λ _ s'=>∃ σ' H',Inv X pins σ' H' s'/\Q σ' H') X.xe s
section
variable {X:Cx}{pos:Pos}
noncomputable def Air (i:Nat):TG:=λ v σ H Q=>Q (σ.set i (some v)) H
theorem Ob {i:Nat}{x:Str}(hN:X.N.Nodup) (hi:X.N[i]?=some x) (hx:Loc X.env.scope x) (hf:X.fn x=true\/X.env.scope.names.lookup x=some .local:=by first|exact .inl rfl|exact .inr rfl|assumption):PG X (.Name x pos) (Air i):=by
 intro pins s σ H v u Q I r h
 exact wpAny_assign_Name (Oe I hN hi hx r (λ s' I'=>⟨_,H,I',h⟩) hf)
noncomputable def Apm:TGs:=λ vs σ H Q=>vs=[]/\Q σ H
noncomputable def Amd (t:TG) (u:TGs):TGs:=λ vs σ H Q=>∃ v r,vs=v :: r/\t v σ H λ σ' H'=>u r σ' H' Q
theorem Agd:PGs X [] Apm:=by
 intro pins s σ H vs us Q I r h
 obtain⟨e,h⟩:=h
 subst e
 cases r
 exact assignInOrder_nil ⟨σ,H,I,h⟩
theorem T6 {e:Expr}{es:List Expr}{t:TG}{u:TGs}(h1:PG X e t) (h2:PGs X es u)
  (hs:(assignEach (e :: es) X.env).map (·.2)=assign e X.env :: (assignEach es X.env).map (·.2):=by rfl):PGs X (e :: es) (Amd t u):=by
 intro pins s σ H vs us Q I r h
 obtain⟨v,vr,e1,h⟩:=h
 subst e1
 cases r with
 | cons r rr =>
  rw [hs]
  refine assignInOrder_cons (thn (h1 pins s σ H _ _ _ I r h) ?_)
  rintro _ s1 ⟨σ1,H1,I1,q1⟩
  exact h2 pins s1 σ1 H1 _ _ Q I1 rr q1
noncomputable def As0 (K:PySem.W.Frag) (n:Nat) (t:TGs):TG:=λ v σ H Q=>∃ a xs,v=.ref a/\SqT K H a xs/\xs.length=n/\t xs σ H Q
theorem Ah9 {es:List Expr}{k:Nat}{t:TGs}{n:Nat}(hc:X.calm=true) (h:PGs X es t)
  (hn:(assignEach es X.env).length=n:=by rfl) (hst:(assignEach es X.env).findIdx? (·.1)=none:=by rfl):PG X (.Tuple es k pos) (As0 X.K n t):=by
 intro pins s σ H v u Q I r hw
 obtain⟨a,xs,e1,hq,hl,hw⟩:=hw
 subst e1
 cases r
 obtain⟨its,rv,ht,hz⟩:=I.tuple hq
 refine assign_Tuple_tuple (I.ok.hd hc) ht (by simp [hn,<-hl,rv.length]) hst λ h' hx=>?_
 have I1:Inv X pins σ H { s with heap:=h' }:=I.kept (t':=s.toks) λ b o e=>hx b o (Nat.ne_of_lt (Heap.lt_size e)) e
 exact h pins _ σ H xs _ Q I1 (by simpa using rv) hw
noncomputable def Aq1 (te:TE) (g:TG):TS:=λ D σ H=>te σ H λ x H1=>g x σ H1 D.nx
theorem Adv {i:Nat}{x:Str}{e:Expr}{te:TE}{pos':Pos}(hN:X.N.Nodup) (hi:X.N[i]?=some x) (hx:Loc X.env.scope x) (he:PE X e te) (hs:swapsWith e (some (.Name x pos')) pos.line X.env=pure false:=by rfl) (hf:X.fn x=true\/X.env.scope.names.lookup x=some .local:=by first|exact .inl rfl|exact .inr rfl|assumption) :
  PS X (.Assign [.Name x pos'] e pos) (Aq1 te (Air i)):=by
 intro pins s σ H D I h
 refine wpAny_Assign_Name (thn (he pins s σ H _ I h) ?_) hs
 rintro v s1 ⟨y,H1,I1,r1,q1⟩
 exact Oe I1 hN hi hx r1 (λ s2 I2=>⟨_,H1,I2,q1⟩) hf
end

section
variable {X:Cx}{pos:Pos}
end

structure It where
 go:Nat->Hp->Prop
 yld:Nat->Hp->V->Hp->Prop
 stop:Nat->Hp->Prop
noncomputable def Vf (X:Cx) (pins:List (Addr × Obj)) (H:Hp) (b:Addr):Prop :=
 H b=none/\b≠X.env.locals/\b∉X.fs/\(b∈X.ex\/X.s₀.heap.objs.size<=b)/\(∀ x c,X.env.cells.lookup x=some c->c≠b)/\∀ p∈X.pn++pins,p.1≠b
theorem Inv.fpOk {X:Cx}{pins:List (Addr × Obj)}{σ:St}{H H':Hp}{s:Shared}{b:Addr}(I:Inv X pins σ H s) (hb:s.heap.objs.size<=b) (hn:H' b=none):Vf X pins H' b:=by
 refine⟨hn,Nat.ne_of_gt (Nat.lt_of_lt_of_le I.lt hb),I.nofs hb,.inr (Nat.le_trans I.sz hb),λ x c e z=>?_,λ p hp z=>?_⟩
 ·obtain⟨v,q⟩:=I.cell x c e
  exact absurd (Nat.lt_of_lt_of_le q.lt (by rw [z];exact hb)) (Nat.lt_irrefl _)
 ·exact absurd (Nat.lt_of_lt_of_le (Heap.lt_size (I.pin p hp).1) (by rw [z];exact hb)) (Nat.lt_irrefl _)
structure Turn (P:Program) (w:World) (K:PySem.W.Frag) (tg:Expr) (J:It) (fp:List Addr) (it:Addr) (tn:Nat->Heap->Prop):Prop where
 mem:it∈fp
 obj:∀ i h,tn i h->∀ b∈fp,∃ o,h.get? b=some o/\∀ v,o.data≠.cell v
 keep:∀ i h h',tn i h->(∀ b∈fp,∀ o,h.get? b=some o->h'.get? b=some o)->tn i h'
 item:∀ (X:Cx),X.prog=P->X.w=w->X.K=K->X.calm=true->∀ (i:Nat) (pins:List (Addr × Obj)) (s:Shared) (σ:St) (H:Hp) (E:Value->Shared->Prop),Inv X pins σ H s->(∀ b∈fp,Vf X pins H b)->tn i s.heap->J.go i H →
  wpAny (model P w) X.A (pyNext (.ref it)) (λ r s1=>∃ u,r=some u ∧
   wpAny (model P w) X.A (letOwnedTupleGo tg (.ref it) u) (λ _ s2=>∃ x H',Inv X pins σ H' s2/\RelV x u/\J.yld i H x H'/\tn (i+1) s2.heap/\∀ b∈fp,H' b=none) E s1) E s
 done:∀ (X:Cx),X.prog=P->X.w=w->X.K=K->X.calm=true->∀ (i:Nat) (pins:List (Addr × Obj)) (s:Shared) (σ:St) (H:Hp) (E:Value->Shared->Prop),Inv X pins σ H s->(∀ b∈fp,Vf X pins H b)->tn i s.heap->J.stop i H →
  wpAny (model P w) X.A (pyNext (.ref it)) (λ r s1=>r=none/\Inv X pins σ H s1) E s
 self:∀ (A:Around) (i:Nat) (s:Shared) (Q:Value->Shared->Prop) (E:Value->Shared->Prop),tn i s.heap->Q (.ref it) s->wpAny (model P w) A (pyIter (.ref it)) Q E s
noncomputable abbrev TI:=St->Hp->(It->Hp->Prop)->Prop
noncomputable def PIE (X:Cx) (pins:List (Addr × Obj)) (σ:St) (tg:Expr) (R:It->Hp->Prop) (itv:Value) (s2:Shared):Prop :=
 ∃ (it:Addr) (fp:List Addr) (tn:Nat->Heap->Prop) (J:It) (H':Hp),itv=.ref it/\Inv X pins σ H' s2/\Turn X.prog X.w X.K tg J fp it tn/\tn 0 s2.heap/\(∀ b∈fp,Vf X pins H' b)/\R J H'
noncomputable def PI (X:Cx) (tg iter:Expr) (wi:TI):Prop :=
 ∀ (pins:List (Addr × Obj)) (s:Shared) (σ:St) (H:Hp) (R:It->Hp->Prop),Inv X pins σ H s->wi σ H R →
  wpAny (model X.prog X.w) X.A (eval iter X.env) (λ v s1=>wpAny (model X.prog X.w) X.A (pyIter v) (PIE X pins σ tg R) X.xe s1) X.xe s

theorem Afv {M:Model}{A:Around}{E:Value->Shared->Prop}{s:Shared}{tg:Expr}{it:Addr}{u:Value}{o:Obj}{n:String}{vs:Array Value}{Q:Unit->Shared->Prop}(ho:s.heap.get? it=some o) (hc:o.cls=.type n) (hd:o.data=.fields vs)
    (hn:["enumerate","zip","dict_itemiterator","dict_reverseitemiterator","odict_iterator","itertools.zip_longest","itertools.pairwise"].contains n=false) (hQ:Q () s):wpAny M A (letOwnedTupleGo tg (.ref it) u) Q E s:=by
  unfold letOwnedTupleGo
  cases tg<;>first
    | exact wpAny_pure hQ
    | (cases u<;>first
        | exact wpAny_pure hQ
        | (refine wpAny_bind (wpAny_load ho ?_)
           rw [hc,hd]
           show wpAny M A (if (["enumerate","zip","dict_itemiterator","dict_reverseitemiterator","odict_iterator","itertools.zip_longest","itertools.pairwise"].contains n && vs[0]? == some (rawInt _))=true then _ else _) Q E s
           rw [if_neg (by intro h;rw [hn,Bool.false_and] at h;cases h)]
           exact wpAny_pure hQ))

noncomputable def Itl (K:PySem.W.Frag) (a:Addr):It :=
 ⟨λ i H=>∃ xs x,SqL K H a xs/\xs[i]?=some x,λ i H x H'=>H'=H/\∀ xs,SqL K H a xs->xs[i]?=some x,λ i H=>∃ xs,SqL K H a xs/\xs.length<=i⟩
noncomputable def Itt (K:PySem.W.Frag) (a:Addr):It :=
 ⟨λ i H=>∃ xs x,SqT K H a xs/\xs[i]?=some x,λ i H x H'=>H'=H/\∀ xs,SqT K H a xs->xs[i]?=some x,λ i H=>∃ xs,SqT K H a xs/\xs.length<=i⟩
noncomputable def Itr (lo:Int) (n:Nat):It:=⟨λ i _=>i<n,λ i H x H'=>H'=H/\x=.int (lo+i),λ i _=>n<=i⟩
theorem Wu {P:Program}{w:World}{K:PySem.W.Frag}{tg:Expr}(a it:Addr):Turn P w K tg (Itl K a) [it] it (λ i h=>h.IsListIter it a i) where
 mem:=by simp
 obj:=λ i h st b hb=>by
  have e:b=it:=by simpa using hb
  subst e
  obtain⟨o,e,c,d⟩:=st
  exact⟨o,e,λ v z=>by rw [d] at z;cases z⟩
 keep:=λ i h h' st k=>st.at λ o e=>k it (by simp) o e
 item:=by
  intro X hP hw hK hc i pins s σ H E I hf st hg
  subst hP hw hK
  obtain⟨xs,x,hq,hx⟩:=hg
  obtain⟨its,rv,p,hz⟩:=I.list hq
  obtain⟨u,hu,ru⟩:=rv.get hx
  obtain⟨f0,f1,f2,f3,f4,f5⟩:=hf it (by simp)
  refine wpAny_pyNext_list_item st p.isList (x:=u) (by simpa using hu) λ h' st' sb=>?_
  have I1:Inv X pins σ H { s with heap:=h' }:=I.turned (t':=s.toks) (λ b o hb e=>(sb.2 b hb).trans e) f0 f1 f3 f4 f5
  obtain⟨o,e,c,d⟩:=id st'
  exact⟨u,rfl,Afv (s:={ s with heap:=h' }) e c d (by decide) ⟨x,H,I1,ru,⟨rfl,λ ys hy=>by rw [I.list_inj hy hq];exact hx⟩,st',λ b hb=>(hf b hb).1⟩⟩
 done:=by
  intro X hP hw hK hc i pins s σ H E I hf st hg
  subst hP hw hK
  obtain⟨xs,hq,hx⟩:=hg
  obtain⟨its,rv,p,hz⟩:=I.list hq
  obtain⟨f0,f1,f2,f3,f4,f5⟩:=hf it (by simp)
  have hl:=rv.length
  exact wpAny_pyNext_list_end (I.ok.hd hc) st p.isList (by simp;omega) λ h' eb=>⟨rfl,I.turned (t':=s.toks) (λ b o hb e=>eb b o hb e) f0 f1 f3 f4 f5⟩
 self:=λ _ _ _ _ _ st h=>wpAny_pyIter_listiter st h
theorem V9 {P:Program}{w:World}{K:PySem.W.Frag}{tg:Expr}(a it:Addr):Turn P w K tg (Itt K a) [it] it (λ i h=>h.IsTupleIter it a i) where
 mem:=by simp
 obj:=λ i h st b hb=>by
  have e:b=it:=by simpa using hb
  subst e
  obtain⟨o,e,c,d⟩:=st
  exact⟨o,e,λ v z=>by rw [d] at z;cases z⟩
 keep:=λ i h h' st k=>st.at λ o e=>k it (by simp) o e
 item:=by
  intro X hP hw hK hc i pins s σ H E I hf st hg
  subst hP hw hK
  obtain⟨xs,x,hq,hx⟩:=hg
  obtain⟨its,rv,p,hz⟩:=I.tuple hq
  obtain⟨u,hu,ru⟩:=rv.get hx
  obtain⟨f0,f1,f2,f3,f4,f5⟩:=hf it (by simp)
  refine wpAny_pyNext_tuple_item st (show s.heap.IsTuple a its.toArray from p) (x:=u) (by simpa using hu) λ h' st' sb=>?_
  have I1:Inv X pins σ H { s with heap:=h' }:=I.turned (t':=s.toks) (λ b o hb e=>(sb.2 b hb).trans e) f0 f1 f3 f4 f5
  obtain⟨o,e,c,d⟩:=id st'
  exact⟨u,rfl,Afv (s:={ s with heap:=h' }) e c d (by decide) ⟨x,H,I1,ru,⟨rfl,λ ys hy=>by rw [I.tuple_inj hy hq];exact hx⟩,st',λ b hb=>(hf b hb).1⟩⟩
 done:=by
  intro X hP hw hK hc i pins s σ H E I hf st hg
  subst hP hw hK
  obtain⟨xs,hq,hx⟩:=hg
  obtain⟨its,rv,p,hz⟩:=I.tuple hq
  obtain⟨f0,f1,f2,f3,f4,f5⟩:=hf it (by simp)
  have hl:=rv.length
  exact wpAny_pyNext_tuple_end (I.ok.hd hc) st (show s.heap.IsTuple a its.toArray from p) (by simp;omega) λ h' eb=>⟨rfl,I.turned (t':=s.toks) (λ b o hb e=>eb b o hb e) f0 f1 f3 f4 f5⟩
 self:=λ _ _ _ _ _ st h=>wpAny_pyIter_tupleiter st h
theorem Wq {P:Program}{w:World}{K:PySem.W.Frag}{tg:Expr}(it:Addr) (lo:Int) (n:Nat):Turn P w K tg (Itr lo n) [it] it (λ i h=>IsRangeIter h it (lo+(i:Nat) * 1) ((n:Int)-(i:Nat)) 1) where
 mem:=by simp
 obj:=λ i h st b hb=>by
  have e:b=it:=by simpa using hb
  subst e
  exact⟨_,st,λ v z=>by
   have z':Data.fields _=Data.cell v:=z
   cases z'⟩
 keep:=λ i h h' st k=>k it (by simp) _ st
 item:=by
  intro X hP hw hK hc i pins s σ H E I hf st hg
  subst hP hw hK
  obtain⟨f0,f1,f2,f3,f4,f5⟩:=hf it (by simp)
  have W:=Walks.range (prog:=X.prog) (w:=X.w) (I.ok.hd hc) it lo 1 n
  refine W.item i s _ _ hg st λ v h' tk hv st' kk=>?_
  obtain⟨t,rfl⟩:=hv
  have I1:Inv X pins σ H { s with heap:=h',toks:=tk }:=I.turned (λ b o hb e=>kk b o (by simpa using hb) e) f0 f1 f3 f4 f5
  refine⟨_,rfl,Afv (s:={ s with heap:=h',toks:=tk }) (n:="range_iterator") st' rfl rfl (by decide) ⟨.int (lo+i),H,I1,⟨t,?_⟩,⟨rfl,rfl⟩,st',λ b hb=>(hf b hb).1⟩⟩
  rw [Int.mul_one]
 done:=by
  intro X hP hw hK hc i pins s σ H E I hf st hg
  subst hP hw hK
  obtain⟨f0,f1,f2,f3,f4,f5⟩:=hf it (by simp)
  exact wpAny_pyNext_range_end (I.ok.hd hc) st (by have:n<=i:=hg;omega) λ h' eb=>⟨rfl,I.turned (t':=s.toks) (λ b o hb e=>eb b o hb e) f0 f1 f3 f4 f5⟩
 self:=λ _ _ _ _ _ st h=>wpAny_pyIter_rangeiter st h
end L2

namespace L2
open PySem PySem.Spec PyProof.Rows
section
variable {X:Cx}{tg:Expr}
noncomputable def Alr (K:PySem.W.Frag) (tl:TE):TI:=λ σ H R=>tl σ H λ x H1=>∃ a,x=.ref a/\(∃ xs,SqL K H1 a xs)/\R (Itl K a) H1
noncomputable def Aqj (K:PySem.W.Frag) (tl:TE):TI:=λ σ H R=>tl σ H λ x H1=>∃ a,x=.ref a/\(∃ xs,SqT K H1 a xs)/\R (Itt K a) H1
theorem Af2 {l:Expr}{tl:TE}(hl:PE X l tl):PI X tg l (Alr X.K tl):=by
 intro pins s σ H R I h
 refine thn (hl pins s σ H _ I h) ?_
 rintro v s1 ⟨x,H1,I1,r1,q1⟩
 obtain⟨a,e,⟨xs,hq⟩,q⟩:=q1
 subst e
 cases r1
 obtain⟨its,rv,p,hz⟩:=I1.list hq
 refine wpAny_pyIter_list p.isList ?_
 refine⟨s1.heap.objs.size,[s1.heap.objs.size],_,_,H1,rfl,I1.kept (t':=s1.toks) λ b o e=>Heap.get?_push_of_some _ e,Wu a _,⟨_,Heap.get?_push_size _ rfl,rfl,rfl⟩,λ b hb=>?_,q⟩
 have e:b=s1.heap.objs.size:=by simpa using hb
 subst e
 exact I1.fpOk (Nat.le_refl _) (I1.hok.fresh (Nat.le_refl _))
theorem Ahg {l:Expr}{tl:TE}(hl:PE X l tl):PI X tg l (Aqj X.K tl):=by
 intro pins s σ H R I h
 refine thn (hl pins s σ H _ I h) ?_
 rintro v s1 ⟨x,H1,I1,r1,q1⟩
 obtain⟨a,e,⟨xs,hq⟩,q⟩:=q1
 subst e
 cases r1
 obtain⟨its,rv,p,hz⟩:=I1.tuple hq
 refine wpAny_pyIter_tuple (show s1.heap.IsTuple a its.toArray from p) ?_
 refine⟨s1.heap.objs.size,[s1.heap.objs.size],_,_,H1,rfl,I1.kept (t':=s1.toks) λ b o e=>Heap.get?_push_of_some _ e,V9 a _,⟨_,Heap.get?_push_size _ rfl,rfl,rfl⟩,λ b hb=>?_,q⟩
 have e:b=s1.heap.objs.size:=by simpa using hb
 subst e
 exact I1.fpOk (Nat.le_refl _) (I1.hok.fresh (Nat.le_refl _))
theorem Acf {pins:List (Addr × Obj)}{σ:St}{H:Hp}{s:Shared}{R:It->Hp->Prop}{E:Value->Shared->Prop}{lo hi:Int}{t u v:Tok}{tk:Nat}(I:Inv X pins σ H s) (h1:-(2 ^ 62)<=lo) (h2:lo<2 ^ 62) (h3:-(2 ^ 62)<=hi) (h4:hi<2 ^ 62)
  (q:R (Itr lo (hi-lo).toNat) H):wpAny (model X.prog X.w) X.A (pyIter (.ref s.heap.objs.size)) (PIE X pins σ tg R) E { s with heap:=s.heap.push { cls:=.type "range",data:=.fields #[.int lo t,.int hi u,.int 1 v] },toks:=tk }:=by
 refine wpAny_pyIter_range (IsRange.new ..) (small_one h1 h2 h3 h4) ?_
 have I1:Inv X pins σ H { s with heap:=s.heap.push { cls:=.type "range",data:=.fields #[.int lo t,.int hi u,.int 1 v] },toks:=tk }:=I.kept λ b o e=>Heap.get?_push_of_some _ e
 refine⟨(s.heap.push { cls:=.type "range",data:=.fields #[.int lo t,.int hi u,.int 1 v] }).objs.size,[(s.heap.push { cls:=.type "range",data:=.fields #[.int lo t,.int hi u,.int 1 v] }).objs.size],_,_,H,rfl,
  I1.kept (t':=tk) λ b o e=>Heap.get?_push_of_some _ e,Wq _ lo (hi-lo).toNat,?_,λ b hb=>?_,q⟩
 ·have e1:lo+((0:Nat):Int) * 1=lo:=by simp
  have e2:(((hi-lo).toNat:Nat):Int)-((0:Nat):Int)=Builtin.Range.rangeSize lo hi 1:=by rw [rangeSize_one];split<;>omega
  show IsRangeIter _ _ (lo+((0:Nat):Int) * 1) ((((hi-lo).toNat:Nat):Int)-((0:Nat):Int)) 1
  rw [e1,e2]
  exact Heap.get?_push_size _ rfl
 ·have e:b=(s.heap.push { cls:=.type "range",data:=.fields #[.int lo t,.int hi u,.int 1 v] }).objs.size:=by simpa using hb
  subst e
  exact I1.fpOk (Nat.le_refl _) (I1.hok.fresh (Nat.le_refl _))
noncomputable def Als (ta:TA):TI:=λ σ H R=>ta σ H λ vs H1=>∃ j:Int,vs=[.int j]/\-(2 ^ 62)<=j/\j<2 ^ 62/\R (Itr 0 j.toNat) H1
theorem W9 {a:Expr}{ta:TA}{p pos:Pos}(hg:Gl X "range") (hm:X.mg "range"=none) (ha:PA X [a] ta) (hs:starEach [a] X.env=[(false,eval a X.env)]:=by rfl):PI X tg (.Call (.Name "range" p) [a] [] pos) (Als ta):=by
 intro pins s σ H R I h
 refine Call_ (Ls I hg hm boot_range (PyProof.Rows.callWith_type1 (thn (ha pos pins s σ H _ I h) ?_) hs rfl))
 rintro us s1 ⟨vs,H1,I1,r1,q1⟩
 obtain⟨j,e,q1,q2,q⟩:=q1
 subst e
 cases r1 with
 | cons r rr =>
  cases rr
  obtain⟨t,rfl⟩:=r
  exact call_range_1 (Acf I1 (by omega) (by omega) q1 q2 (by simpa using q))

noncomputable def Aod (wi:TI) (g:TG) (tb:TS):TS:=λ D σ H=>wi σ H λ J H1=>∃ W:Nat->Nat->St->Hp->Prop,(∃ m,W 0 m σ H1)/\∀ i m σ H,W i m σ H →
 (J.stop i H/\D.nx σ H)\/(J.go i H/\∃ N:St->Hp->Prop,(∀ σ' H',N σ' H'->∃ m',m'<m/\W (i+1) m' σ' H')/\∀ x H',J.yld i H x H'->g x σ H' λ σ2 H2=>tb { D with nx:=N,ct:=N,bk:=D.nx } σ2 H2)
noncomputable def Qg (fp:List Addr) (h:Heap):List (Addr × Obj):=fp.filterMap λ b=>(h.get? b).map λ o=>(b,o)
theorem G4 {fp:List Addr}{h:Heap}{b:Addr}{o:Obj}(hb:b∈fp) (e:h.get? b=some o):(b,o)∈Qg fp h:=List.mem_filterMap.mpr ⟨b,hb,by rw [e];rfl⟩
theorem Zu {fp:List Addr}{h:Heap}{p:Addr × Obj}(hp:p∈Qg fp h):p.1∈fp/\h.get? p.1=some p.2:=by
 obtain⟨b,hb,e⟩:=List.mem_filterMap.mp hp
 cases q:h.get? b with
 | none=>rw [q] at e;cases e
 | some o =>
  rw [q] at e
  have e':(b,o)=p:=Option.some.inj e
  subst e'
  exact⟨hb,q⟩
theorem Inv.pinned {pins:List (Addr × Obj)}{σ:St}{H:Hp}{s:Shared}{fp:List Addr}(I:Inv X pins σ H s) (hf:∀ b∈fp,Vf X pins H b) (ho:∀ b∈fp,∃ o,s.heap.get? b=some o/\∀ v,o.data≠.cell v):Inv X (pins++Qg fp s.heap) σ H s :=
 I.pins_of λ p hp=>(List.mem_append.mp hp).elim (λ z=>I.pin p (List.mem_append_right _ z)) λ z=>by
  obtain⟨hb,e⟩:=Zu z
  obtain⟨f0,f1,f2,_⟩:=hf p.1 hb
  obtain⟨o,e',d⟩:=ho p.1 hb
  rw [e] at e';cases e'
  exact⟨e,f0,f1,f2,d⟩
theorem Inv.unpinned {pins pl:List (Addr × Obj)}{σ:St}{H:Hp}{s:Shared}(I:Inv X (pins++pl) σ H s):Inv X pins σ H s:=I.pins_of λ p hp=>I.pin p (List.mem_append_right _ (List.mem_append_left _ hp))
theorem Ag3 {iter:Expr}{body:List Stmt}{wi:TI}{g:TG}{tb:TS}{pos:Pos}(hp:PassesOwn (model X.prog X.w) X.A X.env X.xe) (hc:X.calm=true) (hi:PI X tg iter wi) (hg:PG X tg g) (hb:PSs X body tb)
  (hs:∀ x,foldedSetIterable iter X.env x=pure x:=by intro _;rfl):PS X (.For tg iter body [] pos) (Aod wi g tb):=by
 intro pins s σ H D I h
 refine wpAny_For (thn (hi pins s σ H _ I h) λ v s1 h1=>thn h1 λ itv s2 h2=>?_) hs
 obtain⟨it,fp,tn,J,H2,e,I2,T,st2,f2,W,⟨m0,w0⟩,turn⟩:=h2
 subst e
 -- what stays true of the iterator's objects through the loop
 have stat:∀ {H':Hp},(∀ b∈fp,H' b=none)->∀ b∈fp,Vf X pins H' b:=λ hn b hb=>⟨hn b hb,(f2 b hb).2⟩
 refine codeAny_forLoop_any (λ n s'=>∃ i σ' H',Inv X pins σ' H' s'/\tn i s'.heap/\(∀ b∈fp,H' b=none)/\W i n σ' H') ?_ m0 ⟨0,σ,H2,I2,st2,λ b hb=>(f2 b hb).1,w0⟩
 rintro n s3 ⟨i,σ3,H3,I3,st3,fr3,w3⟩
 rcases turn i n σ3 H3 w3 with ⟨stop,qn⟩|⟨go,N,hN,step⟩
 ·refine wpAny_passesOwn hp (thn (T.done X rfl rfl rfl hc i pins s3 σ3 H3 X.xe I3 (stat fr3) st3 stop) ?_)
  rintro r s4 ⟨hr,I4⟩
  subst hr
  exact wpAny_execs_nil ⟨σ3,H3,I4,qn⟩
 ·refine wpAny_passesOwn hp (thn (T.item X rfl rfl rfl hc i pins s3 σ3 H3 X.xe I3 (stat fr3) st3 go) ?_)
  rintro r s4 ⟨u,hr,h4⟩
  subst hr
  refine wpAny_passesOwn hp (thn h4 ?_)
  rintro _ s5 ⟨x,H5,I5,r5,y5,st5,fr5⟩
  have I5':=I5.pinned (stat fr5) (T.obj _ _ st5)
  refine wpAny_passesOwn hp (thn (hg _ s5 σ3 H5 x u _ I5' r5 (step x H5 y5)) ?_)
  rintro _ s6 ⟨σ6,H6,I6,q6⟩
  refine wpAny_passesOwn hp (thn (hb _ s6 σ6 H6 _ I6 q6) λ f s7 q7=>?_)
  have again:∀ {σ7:St} {H7:Hp},Inv X (pins++Qg fp s5.heap) σ7 H7 s7->N σ7 H7->∃ m,m<n/\∃ i σ' H',Inv X pins σ' H' s7/\tn i s7.heap/\(∀ b∈fp,H' b=none)/\W i m σ' H':=λ {σ7 H7} I7 n7=>by
   obtain⟨m',hm,w7⟩:=hN σ7 H7 n7
   refine⟨m',hm,i+1,σ7,H7,I7.unpinned,T.keep _ _ _ st5 λ b hb o e=>(I7.pin (b,o) (List.mem_append_right _ (List.mem_append_right _ (G4 hb e)))).1,λ b hb=>?_,w7⟩
   obtain⟨o,e,d⟩:=T.obj _ _ st5 b hb
   exact (I7.pin (b,o) (List.mem_append_right _ (List.mem_append_right _ (G4 hb e)))).2.1
  cases f with
  | next=>obtain⟨σ7,H7,I7,n7⟩:=q7;exact again I7 n7
  | cont=>obtain⟨σ7,H7,I7,n7⟩:=q7;exact again I7 n7
  | brk=>obtain⟨σ7,H7,I7,q7⟩:=q7;exact⟨σ7,H7,I7.unpinned,q7⟩
  | ret v=>obtain⟨x7,σ7,H7,I7,r7,q7⟩:=q7;exact⟨x7,σ7,H7,I7.unpinned,r7,q7⟩
end

end L2

namespace L2
open PySem PySem.Spec PyProof.Rows

noncomputable abbrev R2:=V->V->Hp->VK->Prop
noncomputable def OpR (X:Cx) (f:Value->Value->Sem Value) (r:R2):Prop :=
 ∀ (pins:List (Addr × Obj)) (s:Shared) (σ:St) (H:Hp) (x y:V) (v u:Value) (Q:VK),Inv X pins σ H s->RelV x v->RelV y u->r x y H Q →
  wpAny (model X.prog X.w) X.A (f v u) (EP X pins σ Q) X.xe s
noncomputable def Fq (X:Cx) (f:Value) (r:List V->Hp->VK->Prop):Prop :=
 ∀ (pins:List (Addr × Obj)) (s:Shared) (σ:St) (H:Hp) (xs:List V) (us:List Value) (Q:VK),Inv X pins σ H s->Vals xs us->r xs H Q →
  wpAny (model X.prog X.w) X.A (call f us) (EP X pins σ Q) X.xe s
noncomputable def Asq (X:Cx) (r:V->Hp->(Bool->Hp->Prop)->Prop):Prop :=
 ∀ (pins:List (Addr × Obj)) (s:Shared) (σ:St) (H:Hp) (x:V) (v:Value) (Q:Bool->Hp->Prop),Inv X pins σ H s->RelV x v->r x H Q →
  wpAny (model X.prog X.w) X.A (truthy v) (TP X pins σ Q) X.xe s

noncomputable def tOp (r:R2) (ta tb:TE):TE:=λ σ H Q=>ta σ H λ x H1=>tb σ H1 λ y H2=>r x y H2 Q
noncomputable def rI (C:Int->Int->Prop) (g:Int->Int->V):R2:=λ x y H Q=>∃ i j,x=.int i/\y=.int j/\C i j/\Q (g i j) H
noncomputable def rI0 (g:Int->Int->V):R2:=λ x y H Q=>∃ i j,x=.int i/\y=.int j/\Q (g i j) H

section
variable {X:Cx}{a b c:Expr}{ta tb tc:TE}{pos:Pos}

theorem Amc (ha:PE X a ta) (hb:PE X b tb) {pins:List (Addr × Obj)}{s:Shared}{σ:St}{H:Hp}{R:V->V->Hp->Prop}(I:Inv X pins σ H s)
  (h:ta σ H λ x H1=>tb σ H1 λ y H2=>R x y H2) {Q:Value->Shared->Prop} {f:Value->Value->Sem Value}
  (hf:∀ v u s2 x y H2,Inv X pins σ H2 s2->RelV x v->RelV y u->R x y H2->wpAny (model X.prog X.w) X.A (f v u) Q X.xe s2) :
  wpAny (model X.prog X.w) X.A (eval a X.env) (λ v s₁=>wpAny (model X.prog X.w) X.A (eval b X.env) (λ u s₂=>wpAny (model X.prog X.w) X.A (f v u) Q X.xe s₂) X.xe s₁) X.xe s:=by
 refine thn (ha pins s σ H _ I h) ?_
 rintro v s1 ⟨x,H1,I1,r1,q1⟩
 refine thn (hb pins s1 σ H1 _ I1 q1) ?_
 rintro u s2 ⟨y,H2,I2,r2,q2⟩
 exact hf v u s2 x y H2 I2 r1 r2 q2

theorem Al0 {op:Operator}{r:R2}(ho:OpR X (binaryOp op) r) (ha:PE X a ta) (hb:PE X b tb):PE X (.BinOp a op b pos) (tOp r ta tb):=by
 intro pins s σ H Q I h
 exact wpAny_BinOp (Amc ha hb I h λ v u s2 x y H2 I2 rx ry q=>ho pins s2 σ H2 x y v u Q I2 rx ry q)

theorem opI {f:Value->Value->Sem Value}{C:Int->Int->Prop}{g:Int->Int->Int}
  (rule:∀ (i j:Int) (t u:Tok) (s:Shared) (Q:Value->Shared->Prop) (E:Value->Shared->Prop),C i j->Q (.int (g i j) s.toks) { s with toks:=s.toks+1 }->wpAny (model X.prog X.w) X.A (f (.int i t) (.int j u)) Q E s) :
  OpR X f (rI C λ i j=>.int (g i j)):=by
 intro pins s σ H x y v u Q I rx ry h
 obtain⟨i,j,rfl,rfl,hc,q⟩:=h
 obtain⟨t,rfl⟩:=rx
 obtain⟨t',rfl⟩:=ry
 exact rule i j t t' s _ _ hc ⟨.int (g i j),H,I.tok _,⟨_,rfl⟩,q⟩
theorem An5 {f:Value->Value->Sem Value}{g:Int->Int->Int}
  (rule:∀ (i j:Int) (t u:Tok) (s:Shared) (Q:Value->Shared->Prop) (E:Value->Shared->Prop),Q (.int (g i j) s.toks) { s with toks:=s.toks+1 }->wpAny (model X.prog X.w) X.A (f (.int i t) (.int j u)) Q E s) :
  OpR X f (rI0 λ i j=>.int (g i j)):=by
 intro pins s σ H x y v u Q I rx ry h
 obtain⟨i,j,rfl,rfl,q⟩:=h
 obtain⟨t,rfl⟩:=rx
 obtain⟨t',rfl⟩:=ry
 exact rule i j t t' s _ _ ⟨.int (g i j),H,I.tok _,⟨_,rfl⟩,q⟩
theorem Amg {f:Value->Value->Sem Value}{g:Int->Int->Bool}
  (rule:∀ (i j:Int) (t u:Tok) (s:Shared) (Q:Value->Shared->Prop) (E:Value->Shared->Prop),Q (.bool (g i j)) s->wpAny (model X.prog X.w) X.A (f (.int i t) (.int j u)) Q E s) :
  OpR X f (rI0 λ i j=>.bl (g i j)):=by
 intro pins s σ H x y v u Q I rx ry h
 obtain⟨i,j,rfl,rfl,q⟩:=h
 obtain⟨t,rfl⟩:=rx
 obtain⟨t',rfl⟩:=ry
 exact rule i j t t' s _ _ ⟨.bl (g i j),H,I,rfl,q⟩

noncomputable def Aph (i j:Int):Prop:=0<j/\j<1073741824
noncomputable def Aio (i j:Int):Prop:=(-(2 ^ 64)<i/\i<2 ^ 64)\/(-(2 ^ 64)<j/\j<2 ^ 64)
theorem Aio.ok {i j:Int}(h:Aio i j):IntMulOk i j:=by
 rcases h with ⟨h1,h2⟩|⟨h1,h2⟩
 ·exact .of_left (intBits_le_64 h1 h2)
 ·exact .of_right (intBits_le_64 h1 h2)

theorem Ah6:OpR X (binaryOp .Add) (rI0 λ i j=>.int (i+j)):=An5 λ _ _ _ _ _ _ _ q=>add_int q
theorem Ah5:OpR X (binaryOp .Sub) (rI0 λ i j=>.int (i-j)):=An5 λ _ _ _ _ _ _ _ q=>sub_int q
theorem Ahz:OpR X (binaryOp .Mult) (rI Aio λ i j=>.int (i * j)):=opI λ _ _ _ _ _ _ _ hc q=>mul_int q hc.ok
theorem Aex:OpR X (binaryOp .FloorDiv) (rI Aph λ i j=>.int (i / j)):=opI λ i j _ _ _ _ _ hc q=>by
 have h1:(0:Int)<j:=hc.1
 have h2:j<1073741824:=hc.2
 exact floordiv_int (by omega) (by rw [Int.fdiv_eq_ediv_of_nonneg i (by omega)];exact q) (.inl (PyProof.noPylong_small (by omega)))
theorem Ahf:OpR X (binaryOp .Mod) (rI (λ _ j=>0<j) λ i j=>.int (i % j)):=opI λ i j _ _ _ _ _ hc q=>by
 have h1:(0:Int)<j:=hc
 exact mod_int' (by omega) (by rw [Int.fmod_eq_emod_of_nonneg i (by omega)];exact q)

end

section
variable {X:Cx}{a b c:Expr}{ta tb tc:TE}{pos:Pos}
theorem U4 {pins:List (Addr × Obj)}{σ:St}{H:Hp}{s:Shared}{Q:VK}{k k':Bool}(I:Inv X pins σ H s) (q:Q (.bl k) H) (e:k=k'):EP X pins σ Q (.bool k') s:=by
 subst e
 exact⟨.bl k,H,I,rfl,q⟩

theorem Afd:OpR X (compareOp .Lt) (rI0 λ i j=>.bl (decide (i<j))):=Amg λ _ _ _ _ _ _ _ q=>lt_int q
theorem Al9:OpR X (compareOp .LtE) (rI0 λ i j=>.bl (decide (i<=j))):=Amg λ _ _ _ _ _ _ _ q=>le_int q
theorem Al8:OpR X (compareOp .Gt) (rI0 λ i j=>.bl (decide (j<i))):=Amg λ _ _ _ _ _ _ _ q=>gt_int q

theorem OpR.or {f:Value->Value->Sem Value}{r r':R2}(h:OpR X f r) (h':OpR X f r'):OpR X f (λ x y H Q=>r x y H Q\/r' x y H Q):=by
 intro pins s σ H x y v u Q I rx ry q
 rcases q with q|q
 ·exact h pins s σ H x y v u Q I rx ry q
 ·exact h' pins s σ H x y v u Q I rx ry q

theorem K3 (b:Expr) {op:CmpOp}(h:op≠.In:=by decide) (h2:op≠.NotIn:=by decide):behindInMarks op b=false:=by
 have e1:(op == CmpOp.In)=false:=by cases op<;>first|rfl|exact absurd rfl h
 have e2:(op == CmpOp.NotIn)=false:=by cases op<;>first|rfl|exact absurd rfl h2
 cases b<;>simp [behindInMarks,e1,e2]
theorem Aew {op:CmpOp}{r:R2}(ho:OpR X (compareOp op) r) (ha:PE X a ta) (hb:PE X b tb) (hm:behindInMarks op b=false):PE X (.Compare a [op] [b] pos) (tOp r ta tb):=by
 intro pins s σ H Q I h
 exact wpAny_Compare1 (Amc ha hb I h λ v u s2 x y H2 I2 rx ry q=>ho pins s2 σ H2 x y v u Q I2 rx ry q) hm
noncomputable def Ajg (t:TE):TT:=λ σ H Q=>t σ H λ x H'=>∃ k,x=.bl k/\Q k H'
theorem Afi {op:CmpOp}{r:R2}(ho:OpR X (compareOp op) r) (ha:PE X a ta) (hb:PE X b tb) (hm:behindInMarks op b=false):PT X (.Compare a [op] [b] pos) (Ajg (tOp r ta tb)):=by
 intro pins s σ H Q I h
 refine wpAny_isTrue_Compare1 (thn (ha pins s σ H _ I h) λ v s1 ⟨x,H1,I1,r1,q1⟩=>thn (hb pins s1 σ H1 _ I1 q1) λ u s2 ⟨y,H2,I2,r2,q2⟩ =>
  thn (ho pins s2 σ H2 x y v u _ I2 r1 r2 q2) λ c s3 ⟨z,H3,I3,r3,k,e,q3⟩=>?_) hm
 subst e
 cases r3
 exact wpAny_truthy_bool ⟨H3,I3,q3⟩
noncomputable def Xf (r r':R2) (ta tb tc:TE):TE:=λ σ H Q=>ta σ H λ x H1=>tb σ H1 λ y H2=>r x y H2 λ z H3=>∃ k,z=.bl k ∧
 (if k=true then tc σ H3 λ w' H4=>r' y w' H4 Q else Q (.bl false) H3)
theorem Acn {op op':CmpOp}{r r':R2}(ho:OpR X (compareOp op) r) (ho':OpR X (compareOp op') r') (ha:PE X a ta) (hb:PE X b tb) (hc:PE X c tc)
  (hm:lastMarks [op,op'] [b,c]=false:=by with_unfolding_all rfl):PE X (.Compare a [op,op'] [b,c] pos) (Xf r r' ta tb tc):=by
 intro pins s σ H Q I h
 refine Compare_chain (thn (ha pins s σ H _ I h) λ v s1 ⟨x,H1,I1,r1,q1⟩=>chain_link (thn (hb pins s1 σ H1 _ I1 q1) λ u s2 ⟨y,H2,I2,r2,q2⟩ =>
  thn (ho pins s2 σ H2 x y v u _ I2 r1 r2 q2) λ d s3 ⟨z,H3,I3,r3,k,e,q3⟩=>?_)) hm
 subst e
 cases r3
 refine wpAny_truthy_bool ?_
 cases k with
 | false=>exact ite_ff ⟨.bl false,H3,I3,rfl,q3⟩
 | true=>exact ite_tt (chain_last (thn (hc pins s3 σ H3 _ I3 q3) λ w' s4 ⟨z',H4,I4,r4,q4⟩=>ho' pins s4 σ H4 y z' u w' Q I4 r2 r4 q4))
theorem Aci {op op':CmpOp}{r r':R2}(ho:OpR X (compareOp op) r) (ho':OpR X (compareOp op') r') (ha:PE X a ta) (hb:PE X b tb) (hc:PE X c tc)
  (hm:lastMarks [op,op'] [b,c]=false:=by with_unfolding_all rfl):PT X (.Compare a [op,op'] [b,c] pos) (Ajg (Xf r r' ta tb tc)):=by
 intro pins s σ H Q I h
 refine isTrue_chain (thn (ha pins s σ H _ I h) λ v s1 ⟨x,H1,I1,r1,q1⟩=>test_link (thn (hb pins s1 σ H1 _ I1 q1) λ u s2 ⟨y,H2,I2,r2,q2⟩ =>
  thn (ho pins s2 σ H2 x y v u _ I2 r1 r2 q2) λ d s3 ⟨z,H3,I3,r3,k,e,q3⟩=>?_)) hm
 subst e
 cases r3
 refine wpAny_truthy_bool ?_
 cases k with
 | false =>
  obtain⟨k',e',q'⟩:=q3
  cases e'
  exact ite_ff ⟨H3,I3,q'⟩
 | true =>
  refine ite_tt (test_last (thn (hc pins s3 σ H3 _ I3 q3) λ w' s4 ⟨z',H4,I4,r4,q4⟩=>thn (ho' pins s4 σ H4 y z' u w' _ I4 r2 r4 q4) ?_))
  rintro d' s5 ⟨z2,H5,I5,r5,k2,e2,q5⟩
  subst e2
  cases r5
  exact wpAny_truthy_bool ⟨H5,I5,q5⟩

noncomputable def Ar6 (K:PySem.W.Frag) (x:V) (H:Hp) (k:Bool):Prop :=
 match x with
 | .non=>k=false
 | .bl b=>k=b
 | .int i=>k=(i != 0)
 | .str y=>y.length<=sizeLine/\k=((y.length:Int) != 0)
 | .byt y=>y.size<=sizeLine/\k=((y.size:Int) != 0)
 | .ref p=>(∃ xs,SqL K H p xs/\k=!xs.isEmpty)\/(∃ xs,SqT K H p xs/\k=!xs.isEmpty)\/∃ kvs,H p=some (.dK kvs)/\k=!kvs.isEmpty
 | _=>False
theorem Vz {κ:Type}{kvs:List (κ × V)}{vs:List (κ × Value)}(r:KV kvs vs):(!vs.isEmpty)=!kvs.isEmpty:=by
 cases r<;>rfl
theorem Nh {xs:List V}{its:List Value}(r:Vals xs its):(!its.toArray.isEmpty)=!xs.isEmpty:=by
 cases r<;>simp
theorem Kr:(sizeLine:Nat)<2 ^ 63:=by rw [sizeLine_eq];decide
theorem Ao7:Asq X (λ x H Q=>∃ k,Ar6 X.K x H k/\Q k H):=by
 intro pins s σ H x v Q I rx h
 obtain⟨k,e,q⟩:=h
 have hl:=Kr
 have hs:sizeLine=16777216:=sizeLine_eq
 cases x with
 | non =>
  cases rx
  have e':k=false:=e
  subst e'
  exact truthy_none ⟨H,I,q⟩
 | bl b =>
  cases rx
  have e':k=b:=e
  subst e'
  exact wpAny_truthy_bool ⟨H,I,q⟩
 | int i =>
  obtain⟨t,rfl⟩:=rx
  have e':k=(i != 0):=e
  subst e'
  exact PySem.P.truthy_int ⟨H,I,q⟩
 | str y =>
  obtain⟨t,rfl⟩:=rx
  obtain⟨hy,e'⟩:y.length<=sizeLine/\k=((y.length:Int) != 0):=e
  subst e'
  exact PySem.P.truthy_str (by omega) ⟨H,I.tok _,q⟩
 | byt y =>
  obtain⟨t,rfl⟩:=rx
  obtain⟨hy,e'⟩:y.size<=sizeLine/\k=((y.size:Int) != 0):=e
  subst e'
  exact PySem.W.truthy_bytes (by omega) ⟨H,I.tok _,q⟩
 | ref p =>
  cases rx
  have e':(∃ xs,SqL X.K H p xs/\k=!xs.isEmpty)\/(∃ xs,SqT X.K H p xs/\k=!xs.isEmpty)\/∃ kvs,H p=some (.dK kvs)/\k=!kvs.isEmpty:=e
  rcases e' with ⟨xs,hx,e'⟩|⟨xs,hx,e'⟩|⟨kvs,hx,e'⟩
  ·subst e'
   obtain⟨its,r,pl,hz⟩:=I.list hx
   have hlen:=r.length
   exact wpAny_truthy_list pl.isList (by simp only [List.size_toArray];omega) ⟨H,I.tok _,by rw [Nh r];exact q⟩
  ·subst e'
   obtain⟨its,r,pl,hz⟩:=I.tuple hx
   have hlen:=r.length
   exact truthy_tuple pl (by simp only [List.size_toArray];omega) ⟨H,I.tok _,by rw [Nh r];exact q⟩
  ·subst e'
   obtain⟨hz,hS,vs,r,m⟩:kvs.length<=sizeLine/\(p == sysModules)=false/\∃ vs,KV kvs vs/\s.heap.DictOf (Cv X.prog X.w) p vs:=I.hok p _ hx
   have hlen:kvs.length=vs.length:=Paired.length r
   exact wpAny_truthy_dict hS m (by omega) ⟨H,I.tok _,by rw [Vz r];exact q⟩
 | _=>exact (show False from e).elim

theorem Ws:OpR X (binaryOp .Add) (λ x y H Q=>∃ i j,x=.str i/\y=.str j/\i.length+j.length<=sizeLine/\Q (.str (i++j)) H):=by
 intro pins s σ H x y v u Q I rx ry h
 obtain⟨i,j,rfl,rfl,hz,q⟩:=h
 obtain⟨t,rfl⟩:=rx
 obtain⟨t',rfl⟩:=ry
 exact add_str (λ t' tk=>⟨.str (i++j),H,I.tok _,⟨_,rfl⟩,q⟩) hz

theorem vals1 {x:V}{us:List Value}(r:Vals [x] us):∃ u,us=[u]/\RelV x u:=by
 cases r with
 | cons r1 r2=>cases r2;exact⟨_,rfl,r1⟩
theorem vals2 {x y:V}{us:List Value}(r:Vals [x,y] us):∃ u w',us=[u,w']/\RelV x u/\RelV y w':=by
 cases r with
 | cons r1 r2 =>
  cases r2 with
  | cons r3 r4=>cases r4;exact⟨_,_,rfl,r1,r3⟩
theorem Q9:Fq X (.type "int") (λ xs H Q=>(∃ i,xs=[.int i]/\Q (.int i) H)\/∃ k,xs=[.bl k]/\Q (.int (if k then 1 else 0)) H):=by
 intro pins s σ H xs us Q I r h
 rcases h with ⟨i,rfl,q⟩|⟨k,rfl,q⟩
 ·obtain⟨u,rfl,t,rfl⟩:=vals1 r
  exact call_int_int ⟨.int i,H,I,⟨_,rfl⟩,q⟩
 ·obtain⟨u,rfl,r1⟩:=vals1 r
  cases r1
  exact call_int_bool ⟨.int (if k then 1 else 0),H,I.tok _,⟨_,rfl⟩,q⟩
noncomputable def Asp (K:PySem.W.Frag) (x:V) (H:Hp) (n:Nat):Prop :=
 match x with
 | .str y=>y.length<=sizeLine/\n=y.length
 | .byt y=>y.size<=sizeLine/\n=y.size
 | .ref p=>(∃ xs,SqL K H p xs/\n=xs.length)\/∃ xs,SqT K H p xs/\n=xs.length
 | _=>False
theorem U0:Fq X (.builtin "len") (λ xs H Q=>∃ x n,xs=[x]/\Asp X.K x H n/\Q (.int n) H):=by
 intro pins s σ H xs us Q I r h
 obtain⟨x,n,rfl,e,q⟩:=h
 obtain⟨u,rfl,rx⟩:=vals1 r
 have hl:=Kr
 have hs:sizeLine=16777216:=sizeLine_eq
 cases x with
 | str y =>
  obtain⟨t,rfl⟩:=rx
  obtain⟨hy,e'⟩:y.length<=sizeLine/\n=y.length:=e
  subst e'
  exact len_str (by omega) ⟨.int _,H,I.tok _,⟨_,rfl⟩,q⟩
 | byt y =>
  obtain⟨t,rfl⟩:=rx
  obtain⟨hy,e'⟩:y.size<=sizeLine/\n=y.size:=e
  subst e'
  exact PySem.W.len_bytes (by omega) ⟨.int _,H,I.tok _,⟨_,rfl⟩,q⟩
 | ref p =>
  cases rx
  have e':(∃ xs,SqL X.K H p xs/\n=xs.length)\/∃ xs,SqT X.K H p xs/\n=xs.length:=e
  rcases e' with ⟨xs,hx,e'⟩|⟨xs,hx,e'⟩
  ·subst e'
   obtain⟨its,r',pl,hz⟩:=I.list hx
   have hlen:=r'.length
   exact Calls.call_len_list pl.isList (by simp only [List.size_toArray];omega) ⟨.int xs.length,H,I.tok _,⟨_,by simp only [List.size_toArray];rw [hlen]⟩,q⟩
  ·subst e'
   obtain⟨its,r',pl,hz⟩:=I.tuple hx
   have hlen:=r'.length
   exact len_tuple pl (by simp only [List.size_toArray];omega) ⟨.int xs.length,H,I.tok _,⟨_,by simp only [List.size_toArray];rw [hlen]⟩,q⟩
 | _=>exact (show False from e).elim
end
end L2

namespace L2
open PySem PySem.Spec PyProof.Rows

structure ObjM (h:Heap) (x dx C:Addr) (mA:Str->Option Value):Prop where
 obj:h.get? x=some (PySem.W.instObj C dx)
 ns:h.Ns1 dx mA
 ne:dx≠x

theorem Y6 {h:Heap}{dx:Addr}{mA:Str->Option Value}(n:h.Ns1 dx mA):∃ od,h.get? dx=some od/\∀ name,PySem.W.lookIn name od=some (mA name):=by
 obtain⟨o,es,ep,ho,hd,hk,_,hm⟩:=n
 refine⟨o,ho,λ name=>?_⟩
 have e:=hm name
 unfold nsFind findBy at e
 rw [<-Array.find?_toList] at e
 unfold PySem.W.lookIn
 rw [hd]
 dsimp only
 split
 ·rename_i y q
  rw [q] at e
  exact congrArg some e
 ·rename_i q
  rw [q] at e
  have a:es.toList.any (·.refKey)=false:=by
   rw [List.any_eq_false]
   intro y hy
   obtain⟨z,t,hkey⟩:=hk y (Array.mem_toList_iff.mp hy)
   simp [DictEntry.refKey,hkey]
  have a':¬ es.toList.any (·.refKey)=true:=by rw [a];exact Bool.false_ne_true
  rw [if_neg a']
  exact congrArg some e

theorem ObjM.look {h:Heap}{x dx C:Addr}{mA:Str->Option Value}(I:ObjM h x dx C mA):∃ od,PySem.W.InstAt h x (PySem.W.instObj C dx) C (some od)/\∀ name,PySem.W.lookIn name od=some (mA name) :=
 let ⟨od,ho,hl⟩:=Y6 I.ns
 ⟨od,⟨I.obj,rfl,rfl,ho⟩,hl⟩

section
variable {prog:Program}{w:World}{A:Around}{E:Value->Shared->Prop}{s:Shared}{K:PySem.W.Frag}{x dx C f:Addr}{mA:Str->Option Value}{name:Str}{v:Value}

end

noncomputable def Ass (f:Str) (v:V):List (Str × V)->List (Str × V)
 | []=>[(f,v)]
 | (g,x) :: r=>if g=f then (g,v) :: r else (g,x) :: Ass f v r

theorem Wc.some_of {v:V}{o:Option Value}(r:Wc (some v) o):∃ u,o=some u/\RelV v u:=by
 cases o with
 | none=>exact (show False from r).elim
 | some u=>exact⟨u,rfl,r⟩

section
variable {P:Program}{w:World}{H H':Hp}{h h':Heap}{a C dx:Addr}{fs fs':List (Str × V)}
theorem Afj (hok:HOk P w H h) (e:H a=some (.ins C dx fs)):∃ mA,ObjM h a dx C mA/\(∀ f,Wc (fs.lookup f) (mA f))/\PySem.Within mA (fs.map (·.1))/\fs.length<=1000/\H dx=some (.own a):=by
 obtain⟨d,z,ne,ob,mA,n,r,q⟩:=(show Cp P w H h a (.ins C dx fs) from hok a _ e)
 exact⟨mA,⟨ob,n,ne⟩,r,q,z,d⟩
end

structure Cls (K:PySem.W.Frag) (C:Addr):Prop where
 pg:PySem.W.plainGet K C Str.empty=true
 hd:PySem.W.hasDictIn K C=true
 po:PySem.W.plainOver K C=true
 sa:PySem.W.findIn K (.ref C) "__setattr__"=some (some (.builtin "object.__setattr__"))
theorem Cls.get {K:PySem.W.Frag}{C:Addr}(c:Cls K C) (f:Str):PySem.W.plainGet K C f=true:=c.pg
structure Con (K:PySem.W.Frag) (C:Addr) (f:Str) (v:V) (u:Value):Prop where
 at_:PySem.W.findIn K (.ref C) f=some (some u)
 rel:RelV v u
 get:PySem.W.specialIn K u "__get__"=some none
 cp:PySem.W.copiedNames.contains f=false
structure Meth (K:PySem.W.Frag) (C:Addr) (m:Str) (f:Addr):Prop where
 at_:PySem.W.findIn K (.ref C) m=some (some (.ref f))
 fn:PySem.W.isFn K (.ref f)=true
 kp:PySem.W.keepIn K (.ref f)=true

section
variable {X:Cx}{pins:List (Addr × Obj)}{σ:St}{H:Hp}{s:Shared}{a C dx:Addr}{fs:List (Str × V)}{f:Str}{v:V}{A:Around}{E:Value->Shared->Prop}

end

section
variable {X:Cx}{o e value:Expr}{f:Str}{pos pos' tpos:Pos}{ta tv:TE}

end

section
variable {X:Cx}{pins:List (Addr × Obj)}{σ:St}{H:Hp}{s:Shared}{A:Around}{E:Value->Shared->Prop}{Q:Value->Shared->Prop}{c:Value}{b:Bool}
inductive TyOf (K:PySem.W.Frag) (H:Hp):V->Value->Prop where
 | non:TyOf K H .non (.type "NoneType")
 | bl (x:Bool):TyOf K H (.bl x) (.type "bool")
 | int (i:Int):TyOf K H (.int i) (.type "int")
 | str (x:Str):TyOf K H (.str x) (.type "str")
 | flt (x:UInt64):TyOf K H (.flt x) (.type "float")
 | lst {a:Addr} {xs:List V} (e:H a=some (.lst xs)):TyOf K H (.ref a) (.type "list")
 | frz {a:Addr} {o:Obj} {xs:List V} (e:H a=some (.frz o (.lst xs))):TyOf K H (.ref a) (.type "list")
 | tup {a:Addr} {xs:List V} (e:H a=some (.tup xs)):TyOf K H (.ref a) (.type "tuple")
 | dK {a:Addr} {kvs:List (Key × V)} (e:H a=some (.dK kvs)):TyOf K H (.ref a) (.type "dict")
 | dT {a:Addr} {kvs:List (List Key × V)} (e:H a=some (.dT kvs)):TyOf K H (.ref a) (.type "dict")
 | ins {a C dx:Addr} {fs:List (Str × V)} (e:H a=some (.ins C dx fs)) (cl:Cls K C) (ha:PySem.W.findIn K (.ref C) "__class__"=some (some (.builtin "object.__class__")))
   (hn:PySem.W.specialIn K (.builtin "object.__class__") "__get__"=some (some (.builtin "getset_descriptor.__get__"))) (htk:PySem.W.takesIn K (.builtin "object.__class__")=some true)
   (hm:PySem.W.mroIn K C (.type "object")=some true):TyOf K H (.ref a) (.ref C)
theorem W0 {x:V}{u t:Value}(I:Inv X pins σ H s) (rx:RelV x u) (ty:TyOf X.K H x t) (e:PySem.W.kitOne X.K t c=some b) (h:∀ tk,Q (.bool b) { s with toks:=tk }) :
  wpAny (model X.prog X.w) A (call (.builtin "isinstance") [u,c]) Q E s:=by
 cases ty with
 | non=>cases (show u=Value.none from rx);exact PySem.W.kia_one PySem.W.kitx_none I.kIn True.intro e (λ z=>nomatch z) h
 | bl y=>cases (show u=Value.bool y from rx);exact PySem.W.kia_one PySem.W.kitx_bool I.kIn True.intro e (λ z=>nomatch z) h
 | int i=>obtain⟨t,q⟩:=(show ∃ t,u=Value.int i t from rx);cases q;exact PySem.W.kia_one PySem.W.kitx_int I.kIn True.intro e (λ z=>nomatch z) h
 | str y=>obtain⟨t,q⟩:=(show ∃ t,u=Value.str y t from rx);cases q;exact PySem.W.kia_one PySem.W.kitx_str I.kIn True.intro e (λ z=>nomatch z) h
 | flt y=>obtain⟨t,q⟩:=(show ∃ t,u=Value.float y t from rx);cases q;exact PySem.W.kia_one PySem.W.kitx_float I.kIn True.intro e (λ z=>nomatch z) h
 | @lst a xs ea =>
  cases (show u=Value.ref a from rx)
  obtain⟨_,_,n,_,h1⟩:=(show Cp X.prog X.w H s.heap a (.lst xs) from I.hok a _ ea)
  exact PySem.W.kia_one PySem.W.kitx_list I.kIn ⟨_,h1,rfl⟩ e (λ z=>nomatch z) h
 | @frz a ob xs ea =>
  cases (show u=Value.ref a from rx)
  obtain⟨_,_,_,n,_,h1⟩:=(show Cp X.prog X.w H s.heap a (.frz ob (.lst xs)) from I.hok a _ ea)
  exact PySem.W.kia_one PySem.W.kitx_list I.kIn ⟨_,h1,rfl⟩ e (λ z=>nomatch z) h
 | @tup a xs ea =>
  cases (show u=Value.ref a from rx)
  obtain⟨_,_,_,p⟩:=(show Cp X.prog X.w H s.heap a (.tup xs) from I.hok a _ ea)
  obtain⟨o,h1,h2,_⟩:=p
  exact PySem.W.kia_one PySem.W.kitx_tuple I.kIn ⟨o,h1,h2⟩ e (λ z=>nomatch z) h
 | @dK a kvs ea =>
  cases (show u=Value.ref a from rx)
  obtain⟨_,_,vs,_,p⟩:=(show Cp X.prog X.w H s.heap a (.dK kvs) from I.hok a _ ea)
  obtain⟨o,es,ep,h1,h2,_⟩:=p
  exact PySem.W.kia_one PySem.W.kitx_dict I.kIn ⟨o,h1,h2.1⟩ e (λ z=>nomatch z) h
 | @dT a kvs ea =>
  cases (show u=Value.ref a from rx)
  obtain⟨_,_,xs,_,o,es,ep,h1,h2,_⟩:=(show Cp X.prog X.w H s.heap a (.dT kvs) from I.hok a _ ea)
  exact PySem.W.kia_one PySem.W.kitx_dict I.kIn ⟨o,h1,h2.1⟩ e (λ z=>nomatch z) h
 | @ins a C dx fs ea cl ha hn htk hm =>
  cases (show u=Value.ref a from rx)
  obtain⟨mA,O,_⟩:=Afj I.hok ea
  obtain⟨od,J,_⟩:=O.look
  exact PySem.W.kia_one (PySem.W.kitx_own (cl.get _) cl.hd ha hn htk hm) I.kIn J e (λ z=>nomatch z) h
end
end L2

namespace L2
open PySem PySem.Spec PyProof.Rows

structure Room (k:Nat) (A:Around):Prop where
 hd:A.handled=none
 dp:A.depth+3 * k+5<recursionLimit
 un:A.units+16 * k+200<cLine
theorem Room.mono {j k:Nat}{A:Around}(r:Room k A) (h:j<=k):Room j A:=⟨r.hd,by have:=r.dp;omega,by have:=r.un;omega⟩
theorem Room.deeper {k:Nat}{A:Around}(r:Room (k+1) A) (env:Env):Room k (A.deeper env) :=
 ⟨r.hd,by have:=r.dp;show A.depth+1+3 * k+5<_;omega,by have:=r.un;show A.units+3+16 * k+200<_;omega⟩
theorem Room.depth {k:Nat}{A:Around}(r:Room k A):A.depth<recursionLimit:=by have:=r.dp;omega
theorem Room.units {k:Nat}{A:Around}(r:Room k A):A.units+64<cLine:=by have:=r.un;omega

noncomputable def Amv:TA:=λ _ H Q=>Q [] H
noncomputable def Aes (ta:TE) (tr:TA):TA:=λ σ H Q=>ta σ H λ x H1=>tr σ H1 λ xs H2=>Q (x :: xs) H2
section
variable {X:Cx}{e:Expr}{es:List Expr}{te:TE}{t:TA}{pos:Pos}
theorem Ea:PA X [] Amv:=λ _ _ _ _ H Q I h=>Calls.spliced_nil ⟨[],H,I,.nil,h⟩
theorem Br (ha:PE X e te) (hr:PA X es t) (hs:starEach (e :: es) X.env=(false,eval e X.env) :: starEach es X.env:=by rfl):PA X (e :: es) (Aes te t):=by
 intro pos pins s σ H Q I h
 rw [hs]
 show wpAny _ _ (spliced ((false,eval e X.env) :: backTo pos (starEach es X.env))) _ _ s
 refine Calls.spliced_cons (thn (ha pins s σ H _ I h) ?_)
 rintro u s1 ⟨x,H1,I1,r1,q1⟩
 exact thn (hr pos pins s1 σ H1 _ I1 q1) λ us s2 ⟨xs,H2,I2,r2,q2⟩=>⟨x :: xs,H2,I2,.cons r1 r2,q2⟩

noncomputable def Apw (t:TA):TE:=λ σ H Q=>t σ H λ xs H1=>xs.length<=sizeLine/\∀ p,H1 p=none->Q (.ref p) (upd H1 p (.tup xs))
noncomputable def Aq6 (t:TA):TE:=λ σ H Q=>t σ H λ xs H1=>xs.length<=sizeLine/\∀ p,H1 p=none->Q (.ref p) (upd H1 p (.lst xs))
theorem Aj0 {x1}(h:PA X es t):PE X (.Tuple es x1 pos) (Apw t):=by
 intro pins s σ H Q I hq
 refine wpAny_Tuple_spliced (thn (h pos pins s σ H _ I hq) λ us s1 ⟨xs,H1,I1,r,z,q⟩=>⟨by rw [<-r.length];exact z,?_⟩)
 have hf:H1 s1.heap.objs.size=none:=I1.hok.fresh (Nat.le_refl _)
 refine⟨.ref s1.heap.objs.size,upd H1 s1.heap.objs.size (.tup xs),I1.laid (t':=s1.toks) (λ b u e=>Heap.get?_push_of_some _ e) (Nat.le_refl _) ?_,rfl,q _ hf⟩
 exact⟨z,us,r,⟨_,Heap.get?_push_size _ rfl,rfl,_,rfl⟩⟩
theorem Ah3 (h:PA X es t):PE X (.List es pos) (Aq6 t):=by
 intro pins s σ H Q I hq
 refine wpAny_List_spliced (thn (h pos pins s σ H _ I hq) λ us s1 ⟨xs,H1,I1,r,z,q⟩=>⟨by rw [<-r.length];exact z,?_⟩)
 have hf:H1 s1.heap.objs.size=none:=I1.hok.fresh (Nat.le_refl _)
 refine⟨.ref s1.heap.objs.size,upd H1 s1.heap.objs.size (.lst xs),I1.laid (t':=s1.toks) (λ b u e=>Heap.get?_push_of_some _ e) (Nat.le_refl _) ?_,rfl,q _ hf⟩
 exact⟨z,us,0,r,Heap.get?_push_size _ rfl⟩
end

noncomputable abbrev Sp:=List V->Hp->VK->XK->Prop
noncomputable abbrev CXT:=List Env->Hp->Shared->XK->Value->Shared->Prop

structure Env0 (P:Program) (w:World) (K:PySem.W.Frag) (mg:Str->Option Value) (base:Heap) (A:Around) (outer:List Env) (s:Shared) (H:Hp):Prop where
 frames:A.frames=some outer
 mod:Mod K mg base
 bs:∀ b o,base.get? b=some o->s.heap.get? b=some o/\H b=none
 bsz:base.objs.size<=s.heap.objs.size
 funs:s.heap.FunFrames base outer
 frf:∀ b∈frs outer,H b=none
 hok:HOk P w H s.heap
 bare:AllBare s.gens
noncomputable def CE (outer:List Env) (P:Program) (w:World) (H:Hp) (s:Shared) (Q:VK) (u:Value) (s':Shared):Prop :=
 ∃ v H',s'.os=s.os/\AllBare s'.gens/\Un (frs outer) [] H H' s.heap s'.heap/\HOk P w H' s'.heap/\RelV v u/\Q v H'
noncomputable def CR (CX:CXT) (outer:List Env) (P:Program) (w:World) (H:Hp) (s:Shared) (Q:VK) (E:XK) (r:Result) (s':Shared):Prop :=
 match r with
 | .ok (.ret u)=>CE outer P w H s Q u s'
 | .ok _=>False
 | .error e=>CX outer H s E e s'
structure FnOk (P:Program) (w:World) (K:PySem.W.Frag) (mg:Str->Option Value) (base:Heap) (CX:CXT) (k:Nat) (f:Addr) (fd:FuncData) (ps:List Str) (sp:Sp):Prop where
 len:∀ vs H Q E,sp vs H Q E->vs.length=ps.length
 run:∀ (A:Around) (outer:List Env) (s:Shared) (H:Hp) (args:Args) (us:List Value) (vs:List V) (Q:VK) (E:XK),Room k A->Env0 P w K mg base A outer s H->BindsTo s fd args (ps.zip us)->Vals vs us->sp vs H Q E →
  codeAny (model P w) A (.call (.ref f) args) (CR CX outer P w H s Q E) s

section
variable {X:Cx}{pins:List (Addr × Obj)}{σ:St}{H:Hp}{s s':Shared}
theorem Inv.env0 (I:Inv X pins σ H s):Env0 X.prog X.w X.K X.mg X.base X.A X.stack s H :=
 ⟨I.ok.frames,I.ok.mod,I.bs,Nat.le_trans I.ok.bsz I.sz,I.stack,I.stkFree,I.hok,I.bare⟩
theorem Inv.after {Q:VK}{u:Value}(I:Inv X pins σ H s) (h:CE X.stack X.prog X.w H s Q u s'):EP X pins σ Q u s':=by
 obtain⟨v,H',os,bare,un,hok,r,q⟩:=h
 obtain⟨hh,g,d,t,os'⟩:=s'
 obtain rfl:os'=s.os:=os
 exact⟨v,H',I.call (h':=hh) (g':=g) (d':=d) (t':=t) (ch:=[]) un hok bare (λ b z=>absurd z (by simp)),r,q⟩
end

noncomputable def Amk (sp:Sp) (dvs:List V) (E:XK) (t:TA):TE:=λ σ H Q=>t σ H λ vs H1=>sp (vs++dvs) H1 Q E

noncomputable def Binds (K:PySem.W.Frag) (fd:FuncData) (ps:List Str) (ds:List Value):Prop :=
 ∀ (s:Shared) (us:List Value),K.In s.heap->(us++ds).length=ps.length->BindsTo s fd ⟨us,[]⟩ (ps.zip (us++ds))
theorem Binds.all {K:PySem.W.Frag}{fd:FuncData}{ps:List Str}(h:∀ us:List Value,us.length=ps.length->bindArgs fd ⟨us,[]⟩=pure (ps.zip us)):Binds K fd ps []:=λ s us _ hl=>by
 rw [List.append_nil] at hl ⊢
 exact .of_eq (h us hl)

noncomputable def Passes (CX:CXT) (X:Cx) (E:XK):Prop:=∀ (pins:List (Addr × Obj)) (σ:St) (H:Hp) (s:Shared) (e:Value) (s':Shared),Inv X pins σ H s->CX X.stack H s E e s'->X.xe e s'

section
variable {X:Cx}{CX:CXT}{k:Nat}{f C:Addr}{fd:FuncData}{ps:List Str}{sp:Sp}{dvs:List V}{ds:List Value}{E:XK}{x m:Str}{p pos apos:Pos}{e o:Expr}{es:List Expr}{ta:TE}{t:TA}

theorem Ait {pins:List (Addr × Obj)}{σ:St}{H:Hp}{s:Shared}{Q:VK}{us:List Value}{vs:List V}(F:FnOk X.prog X.w X.K X.mg X.base CX k f fd ps sp) (hr:Room k X.A) (hb:Binds X.K fd ps ds) (hd:Vals dvs ds) (hx:Passes CX X E)
  (I:Inv X pins σ H s) (r:Vals vs us) (h:sp (vs++dvs) H Q E):wpAny (model X.prog X.w) X.A (call (.ref f) us) (EP X pins σ Q) X.xe s:=by
 have r2:Vals (vs++dvs) (us++ds):=r.append hd
 have hl:(us++ds).length=ps.length:=by rw [<-r2.length];exact F.len _ _ _ _ h
 refine wpAny_call (codeAny_mono (F.run X.A X.stack s H ⟨us,[]⟩ (us++ds) (vs++dvs) Q E hr I.env0 (hb s us I.kIn hl) r2 h) λ r s' hq=>?_)
 cases r with
 | error e=>exact hx pins σ H s e s' I hq
 | ok fl =>
  cases fl with
  | ret u=>exact I.after hq
  | next=>exact False.elim hq
  | brk=>exact False.elim hq
  | cont=>exact False.elim hq

theorem Ad8 (F:FnOk X.prog X.w X.K X.mg X.base CX k f fd ps sp) (hr:Room k X.A) (hg:Gl X x) (hm:X.mg x=some (.ref f)) (hk:PySem.W.keepIn X.K (.ref f)=true) (hb:Binds X.K fd ps ds) (hd:Vals dvs ds) (hx:Passes CX X E)
  (ha:PA X (e :: es) t) (hdb:(x == ("__debug__":Str))=false:=by decide) (he:starEach (e :: es) X.env=(false,eval e X.env) :: starEach es X.env:=by rfl) (hpl:(backTo pos (starEach es X.env)).any (·.1)=false:=by rfl) :
  PE X (.Call (.Name x p) (e :: es) [] pos) (Amk sp dvs E t):=by
 intro pins s σ H Q I h
 refine wpAny_Call_Name_kw (Kz I hg hm ?_ hdb)
 refine PySem.W.callWith_K (h₀:=X.base) I.ok.mod.kin hk (thn (ha pos pins s σ H _ I h) λ us s1 ⟨vs,H1,I1,r,q⟩=>⟨I1.kIn,?_⟩) he hpl
 exact Ait F hr hb hd hx I1 r q

structure Mk (K:PySem.W.Frag) (C f:Addr):Prop where
 makes:PySem.W.makesIn K C=true
 init:PySem.W.findIn K (.ref C) "__init__"=some (some (.ref f))
 fn:PySem.W.isFn K (.ref f)=true
 kp:PySem.W.keepIn K (.ref C)=true

end

section
variable {X:Cx}{CX:CXT}{k:Nat}{f C:Addr}{fd:FuncData}{ps ks:List Str}{sp:Sp}{E:XK}{x m:Str}{p pos apos kpos:Pos}{e o:Expr}{es:List Expr}{kws:List Keyword}{te ta:TE}{t tk:TA}{nm:Option Str}

structure KBinds (K:PySem.W.Frag) (fd:FuncData) (ps ks:List Str) (g:List Value->List Value->List Value) (gV:List V->List V->List V):Prop where
 to:∀ (s:Shared) (us ws:List Value),K.In s.heap->(g us ws).length=ps.length->BindsTo s fd ⟨us,ks.zip ws⟩ (ps.zip (g us ws))
 rel:∀ {vs:List V} {us:List Value} {zs:List V} {ws:List Value},Vals vs us->Vals zs ws->Vals (gV vs zs) (g us ws)
variable {g:List Value->List Value->List Value}{gV:List V->List V->List V}
end

structure FnScope (N P:List Str) (sc:Scope):Prop where
 kind:sc.kind=.function
 co:sc.isCoroutine=false
 gen:sc.isGenerator=false
 nd:N.Nodup
 pre:N.take P.length=P
 par:∀ x∈P,sc.names.lookup x=some .local\/sc.names.lookup x=some .cell
 nofree:∀ y∈sc.names,y.2≠.free

theorem Qj {kindOf:Str->Option NameKind}{x:Str}:∀ {binds:List (Str × Value)}{m:Str->Option Value},(∀ v,(x,v)∉binds)->bindL kindOf binds m x=m x
 | [],_,_=>rfl
 | (n,v) :: r,m,h=>by
  unfold bindL
  rw [Qj λ w hw=>h w (List.mem_cons_of_mem _ hw)]
  split
  ·have:x≠n:=by rintro rfl;exact h v List.mem_cons_self
   simp [this]
  ·rfl
theorem Pk {kindOf:Str->Option NameKind}{x:Str}:∀ {binds:List (Str × Value)}{m:Str->Option Value},(∀ v,(x,v)∉binds)->bindC kindOf binds m x=m x
 | [],_,_=>rfl
 | (n,v) :: r,m,h=>by
  unfold bindC
  rw [Pk λ w hw=>h w (List.mem_cons_of_mem _ hw)]
  split
  ·rfl
  ·have:x≠n:=by rintro rfl;exact h v List.mem_cons_self
   simp [this]
theorem Qa {kindOf:Str->Option NameKind}{x:Str}{v:Value}:∀ {P:List Str}{vs:List Value}{i:Nat}{m:Str->Option Value},P.Nodup->P[i]?=some x->vs[i]?=some v->kindOf x=some .local →
  bindL kindOf (P.zip vs) m x=some v
 | [],_,_,_,_,h,_,_=>by simp at h
 | _ :: _,[],_,_,_,_,h,_=>by simp at h
 | p :: P,w :: vs,0,m,nd,h1,h2,hk=>by
  simp at h1 h2;subst h1;subst h2
  show bindL kindOf ((p,w) :: P.zip vs) m p=_
  unfold bindL
  rw [Qj λ v hv=>(List.nodup_cons.mp nd).1 (List.of_mem_zip hv).1,if_pos hk]
  simp
 | p :: P,w :: vs,i+1,m,nd,h1,h2,hk=>by
  show bindL kindOf ((p,w) :: P.zip vs) m x=_
  unfold bindL
  exact Qa (i:=i) (List.nodup_cons.mp nd).2 (by simpa using h1) (by simpa using h2) hk
theorem Ra {kindOf:Str->Option NameKind}{x:Str}{v:Value}:∀ {P:List Str}{vs:List Value}{i:Nat}{m:Str->Option Value},P.Nodup->P[i]?=some x->vs[i]?=some v->kindOf x≠some .local →
  bindC kindOf (P.zip vs) m x=some v
 | [],_,_,_,_,h,_,_=>by simp at h
 | _ :: _,[],_,_,_,_,h,_=>by simp at h
 | p :: P,w :: vs,0,m,nd,h1,h2,hk=>by
  simp at h1 h2;subst h1;subst h2
  show bindC kindOf ((p,w) :: P.zip vs) m p=_
  unfold bindC
  rw [Pk λ v hv=>(List.nodup_cons.mp nd).1 (List.of_mem_zip hv).1,if_neg hk]
  simp
 | p :: P,w :: vs,i+1,m,nd,h1,h2,hk=>by
  show bindC kindOf ((p,w) :: P.zip vs) m x=_
  unfold bindC
  exact Ra (i:=i) (List.nodup_cons.mp nd).2 (by simpa using h1) (by simpa using h2) hk

noncomputable def start (N:List Str) (vs:List V):St:=vs.map some++List.replicate (N.length-vs.length) none

noncomputable def Adg (CX:CXT) (P:Program) (w:World) (K:PySem.W.Frag) (mg:Str->Option Value) (base:Heap) (N:List Str) (qual:Str) (scope:Scope) (f:Addr) (cd:Value) (A:Around) (outer:List Env) (s:Shared) (H:Hp) (E:XK):Cx where
 prog:=P
 w:=w
 K:=K
 mg:=mg
 base:=base
 A:=A.deeper (envOfC qual scope s.heap.objs.size f cd)
 N:=N
 s₀:=s
 H₀:=H
 env:=envOfC qual scope s.heap.objs.size f cd
 outer:=outer
 stack:=envOfC qual scope s.heap.objs.size f cd :: outer
 ex:=[]
 calm:=true
 fn:=λ _=>true
 pn:=[]
 xe:=λ e s'=>wpAny (model P w) (A.deeper (envOfC qual scope s.heap.objs.size f cd)) (leaving (envOfC qual scope s.heap.objs.size f cd) e) (λ _ s''=>CX outer H s E e s'') (λ e' s''=>CX outer H s E e' s'') s'

theorem Vh {sc:Scope}{n:Nat}{x:Str}(h:sc.names.lookup x=some .cell):∃ c,(cellsFrom n sc.names []).lookup x=some c:=by
 have q:=PySem.W.cellsFrom_some sc.names n [] (.inl h)
 exact Option.isSome_iff_exists.mp q

theorem Xc {CX:CXT}{P:Program}{w:World}{K:PySem.W.Frag}{mg:Str->Option Value}{base:Heap}{N ps:List Str}{qual:Str}{scope:Scope}{f:Addr}{cd:Value}{A:Around}{outer:List Env}{s s1:Shared}{H:Hp}{E:XK}{us:List Value}{vs:List V}
  (S:FnScope N ps scope) (hd:A.handled=none) (e0:Env0 P w K mg base A outer s H) (hl:vs.length=ps.length) (r:Vals vs us)
  (x:InCallC s s.heap.objs.size (bindL (envOfC qual scope s.heap.objs.size f cd).kindOf (ps.zip us) λ _=>none) (cellsFrom (s.heap.objs.size+1) scope.names []) (bindC (envOfC qual scope s.heap.objs.size f cd).kindOf (ps.zip us) λ _=>none) s1) :
  Inv (Adg CX P w K mg base N qual scope f cd A outer s H E) [] (start N vs) H s1:=by
 have hpl:ps.length<=N.length:=by have:=congrArg List.length S.pre;rw [List.length_take] at this;omega
 obtain⟨h1,tk,rfl,hk⟩:=x.done
 have noA:∀ b:Addr,b∉(Adg CX P w K mg base N qual scope f cd A outer s H E).ex:=λ b z=>absurd (show b∈([]:List Addr) from z) (by simp)
 refine⟨⟨e0.mod,S.kind,rfl,rfl,Nat.le_refl _,λ y z c h1 h2=>?_,λ y hy=>?_,λ y c _ h=>?_,λ _=>hd,Around.frames_deeper e0.frames,.inr ⟨rfl,rfl⟩,λ b z=>absurd z (noA b),e0.bs,e0.bsz,λ b _ _=>noA b,λ b z=>absurd z (noA b),e0.funs,e0.frf⟩,
  rfl,e0.bare,Un.kept hk,⟨_,x.toInCall.ns,λ i y v h1 h2 h3=>?_⟩,λ y c h=>⟨_,x.cell y c h⟩,e0.hok.fresh (Nat.le_refl _),λ y c h=>?_,λ p hp=>absurd (show p∈([]:List (Addr × Obj)) from hp) (by simp),e0.hok.kept hk,?_⟩
 ·exact name_of_addr x.apart (PySem.mem_of_lookup h1) (PySem.mem_of_lookup h2)
 ·have hy:scope.names.lookup y=some .cell\/scope.names.lookup y=some .free:=hy
  rcases hy with hy|hy
  ·exact Vh hy
  ·exact absurd rfl (S.nofree _ (PySem.mem_of_lookup hy))
 ·exact Nat.le_of_lt (x.above y c (PySem.mem_of_lookup h))
 ·have hi:i<vs.length:=by
   unfold start at h2
   by_cases hi:i<vs.length
   ·exact hi
   ·rw [List.getElem?_append_right (by simpa using hi)] at h2
    rw [List.getElem?_replicate] at h2
    split at h2<;>cases h2
  have ha:vs[i]?=some v:=by
   unfold start at h2
   rw [List.getElem?_append_left (by simpa using hi),List.getElem?_map] at h2
   cases e:vs[i]? with
   | none=>rw [e] at h2;cases h2
   | some a=>rw [e] at h2;cases h2;rfl
  obtain⟨u,hu,rv⟩:=r.get ha
  have hp:ps[i]?=some y:=by
   rw [<-S.pre,List.getElem?_take_of_lt (by omega)];exact h1
  have ndP:ps.Nodup:=by rw [<-S.pre];exact S.nd.sublist (List.take_sublist _ _)
  refine⟨u,rv,?_⟩
  rcases S.par y (List.mem_of_getElem? hp) with k|k
  ·exact .inl ⟨k,Qa ndP hp hu k⟩
  ·obtain⟨c,e⟩:=Vh (n:=s.heap.objs.size+1) k
   refine .inr ⟨.inl k,c,e,?_⟩
   have q:=x.cell y c e
   rw [Ra ndP hp hu (by show scope.names.lookup y≠_;rw [k];decide)] at q
   exact q
 ·exact e0.hok.fresh (Nat.le_of_lt (x.above y c (PySem.mem_of_lookup h)))
 ·unfold start
  show _=N.length
  rw [List.length_append,List.length_map,List.length_replicate]
  omega

theorem Ai8 {CX:CXT}{P:Program}{w:World}{K:PySem.W.Frag}{mg:Str->Option Value}{base:Heap}{k:Nat}{f:Addr}{name qual:Str}{params:Arguments}{body:List Stmt}{scope:Scope}{dV kV doc pm cdv ct oc:Value}{an od:Option Addr}
  {osl:Array (Option Value)} {N ps:List Str} {sp:Sp} (lk:K.lookup f=some ⟨oc,od,.func (PySem.W.fnOf name qual params body scope dV kV doc pm an cdv ct),osl⟩) (hcd:PySem.W.codeIn K cdv qual=true) (S:FnScope N ps scope)
  (len:∀ vs H Q E,sp vs H Q E->vs.length=ps.length)
  (hbody:∀ (A:Around) (outer:List Env) (s:Shared) (H:Hp) (vs:List V) (Q:VK) (E:XK),Room k (A.deeper (envOfC qual scope s.heap.objs.size f cdv))->sp vs H Q E →
   ∃ t,PSs (Adg CX P w K mg base N qual scope f cdv A outer s H E) body t/\t { nx:=λ _ H'=>Q .non H',rt:=Q } (start N vs) H) :
  FnOk P w K mg base CX (k+1) f (PySem.W.fnOf name qual params body scope dV kV doc pm an cdv ct) ps sp:=by
 refine⟨len,λ A outer s H args us vs Q E hr e0 hb r hsp=>?_⟩
 have hl:=len _ _ _ _ hsp
 have KX:K.In s.heap:=e0.mod.kin.keeps λ b o e=>(e0.bs b o e).1
 have lim:s.heap.NoLimit:=e0.mod.nolimit.keeps λ b o e=>(e0.bs b o e).1
 have hkind:∀ y∈ps.zip us,scope.names.lookup y.1=some .local\/(scope.names.lookup y.1=some .cell/\((cellsFrom (s.heap.objs.size+1) scope.names []).lookup y.1).isSome=true):=λ ⟨n,v⟩ hy=>by
  rcases S.par n (List.of_mem_zip hy).1 with q|q
  ·exact .inl q
  ·exact .inr ⟨q,PySem.W.cellsFrom_some _ _ _ (.inl q)⟩
 refine codeAny_call_function hr.depth (KX _ _ lk) rfl S.co S.gen rfl (PySem.W.codeRec_of KX hcd) (hb _ _ _ _ ?_)
 refine wpAny_newFunctionEnv_cells S.kind hkind λ env he s1 x=>?_
 subst he
 refine⟨lim.keeps x.toInCall.keep,codeAny_func ?_⟩
 obtain⟨t,ht,hq⟩:=hbody A outer s H vs Q E (hr.deeper _) hsp
 have I:Inv (Adg CX P w K mg base N qual scope f cdv A outer s H E) [] (start N vs) H s1:=Xc S hr.hd e0 hl r x
 refine wpAny_mono (ht [] s1 (start N vs) H _ I hq) (λ fl s' hs=>?_) λ e s' hs=>hs
 have fin:∀ {σ':St} {H':Hp} {v:V} {u:Value},Inv (Adg CX P w K mg base N qual scope f cdv A outer s H E) [] σ' H' s'->RelV v u->Q v H'->CE outer P w H s Q u s' :=
  λ {σ' H' v u} J rv q=>⟨v,H',J.os,J.bare,J.base,J.hok,rv,q⟩
 cases fl with
 | ret u =>
  obtain⟨v,σ',H',J,rv,q⟩:=hs
  exact fin J rv q
 | next =>
  obtain⟨σ',H',J,q⟩:=hs
  exact fin (v:=V.non) (u:=Value.none) J rfl q
 | brk =>
  obtain⟨_,_,_,q⟩:=hs
  exact False.elim q
 | cont =>
  obtain⟨_,_,_,q⟩:=hs
  exact False.elim q
end L2

namespace L2
open PySem PySem.Spec PyProof.Rows
section
variable {X:Cx}{x:Str}{p pos:Pos}{e:Expr}{es:List Expr}{t:TA}{id T:String}{r:List V->Hp->VK->Prop}

noncomputable def tCB (r:List V->Hp->VK->Prop) (t:TA):TE:=λ σ H Q=>t σ H λ vs H1=>r vs H1 Q
theorem J2 (hc:Fq X (.builtin id) r) (hg:Gl X x) (hm:X.mg x=none) (hv:bootBuiltins x=some (.builtin id)) (ha:PA X (e :: es) t) (hn:x≠"__name__":=by decide) (hdb:(x == ("__debug__":Str))=false:=by decide)
  (he:starEach (e :: es) X.env=(false,eval e X.env) :: starEach es X.env:=by rfl) (hpl:(backTo pos (starEach es X.env)).any (·.1)=false:=by rfl):PE X (.Call (.Name x p) (e :: es) [] pos) (tCB r t):=by
 intro pins s σ H Q I h
 refine wpAny_Call_Name_kw (Ls I hg hm hv ?_ hn hdb)
 exact PyProof.Rows.callWith_builtin1 (thn (ha pos pins s σ H _ I h) λ us s1 ⟨vs,H1,I1,r1,q1⟩=>hc pins s1 σ H1 vs us Q I1 r1 q1) he hpl
theorem Qd (hc:Fq X (.type T) r) (hg:Gl X x) (hm:X.mg x=none) (hv:bootBuiltins x=some (.type T)) (ha:PA X (e :: es) t) (hn:x≠"__name__":=by decide) (hdb:(x == ("__debug__":Str))=false:=by decide)
  (he:starEach (e :: es) X.env=(false,eval e X.env) :: starEach es X.env:=by rfl) (hpl:(backTo pos (starEach es X.env)).any (·.1)=false:=by rfl):PE X (.Call (.Name x p) (e :: es) [] pos) (tCB r t):=by
 intro pins s σ H Q I h
 refine wpAny_Call_Name_kw (Ls I hg hm hv ?_ hn hdb)
 exact PyProof.Rows.callWith_type1 (thn (ha pos pins s σ H _ I h) λ us s1 ⟨vs,H1,I1,r1,q1⟩=>hc pins s1 σ H1 vs us Q I1 r1 q1) he hpl
end
end L2
namespace L2
open PySem PySem.Spec PyProof.Rows

section
variable {κ:Type} [DecidableEq κ]
noncomputable def Wm (kvs:List (κ × V)) (k:κ):Option V:=(kvs.find? λ kv=>decide (kv.1=k)).map (·.2)
noncomputable def putK (kvs:List (κ × V)) (k:κ) (v:V):List (κ × V) :=
 if (kvs.any λ kv=>decide (kv.1=k))=true then kvs.map (λ kv=>if kv.1=k then (kv.1,v) else kv) else kvs++[(k,v)]

theorem J0 {p:κ × V}{r:List (κ × V)}{k:κ}(e:p.1=k):Wm (p :: r) k=some p.2:=by simp [Wm,List.find?_cons,e]
theorem J9 {p:κ × V}{r:List (κ × V)}{k:κ}(e:¬ p.1=k):Wm (p :: r) k=Wm r k:=by simp [Wm,List.find?_cons,e]
theorem U3 (k:κ):∀ kvs:List (κ × V),(kvs.any λ kv=>decide (kv.1=k))=(Wm kvs k).isSome
 | []=>rfl
 | p :: r=>by
  rw [List.any_cons]
  by_cases e:p.1=k
  ·simp only [J0 e,decide_eq_true e,Bool.true_or,Option.isSome_some]
  ·rw [J9 e,decide_eq_false e,Bool.false_or];exact U3 k r
theorem Lf (kvs:List (κ × V)) (k:κ) (v:V):(putK kvs k v).length<=kvs.length+1:=by
 unfold putK
 split
 ·rw [List.length_map];omega
 ·rw [List.length_append,List.length_cons,List.length_nil];omega

theorem Wc.isSome_eq {o:Option V}{u:Option Value}(r:Wc o u):o.isSome=u.isSome:=by
 cases o with
 | none=>cases u with
  | none=>rfl
  | some _=>exact (show False from r).elim
 | some _=>cases u with
  | none=>exact (show False from r).elim
  | some _=>rfl
theorem Wc.getD {o:Option V}{u:Option Value}{d:V}{d':Value}(r:Wc o u) (rd:RelV d d'):RelV (o.getD d) (u.getD d'):=by
 cases o with
 | none=>cases u with
  | none=>exact rd
  | some _=>exact (show False from r).elim
 | some _=>cases u with
  | none=>exact (show False from r).elim
  | some _=>exact r

theorem KV.val {kvs:List (κ × V)}{vs:List (κ × Value)}(r:KV kvs vs) (k:κ):Wc (Wm kvs k) (valueAt vs k):=by
 unfold KV at r
 induction r with
 | nil=>exact True.intro
 | @cons p q ps qs h t ih =>
  obtain⟨h1,h2⟩:=h
  by_cases e:p.1=k
  ·have e':q.1=k:=h1.symm.trans e
   have b:valueAt (q :: qs) k=some q.2:=by simp [valueAt,List.find?_cons,e']
   rw [J0 e,b];exact h2
  ·have e':¬ q.1=k:=λ z=>e (h1.trans z)
   have b:valueAt (q :: qs) k=valueAt qs k:=by simp [valueAt,List.find?_cons,e']
   rw [J9 e,b];exact ih
theorem KV.any {kvs:List (κ × V)}{vs:List (κ × Value)}(r:KV kvs vs) (k:κ):(kvs.any λ kv=>decide (kv.1=k))=vs.any λ kv=>decide (kv.1=k):=by
 unfold KV at r
 induction r with
 | nil=>rfl
 | cons h t ih=>rw [List.any_cons,List.any_cons,ih,h.1]
theorem KV.repl {kvs:List (κ × V)}{vs:List (κ × Value)}(r:KV kvs vs) (k:κ) {y:V}{u:Value}(ry:RelV y u) :
  KV (kvs.map λ kv=>if kv.1=k then (kv.1,y) else kv) (vs.map λ kv=>if kv.1=k then (kv.1,u) else kv):=by
 unfold KV at r ⊢
 induction r with
 | nil=>exact .nil
 | @cons p q ps qs h t ih =>
  rw [List.map_cons,List.map_cons]
  refine .cons ?_ ih
  obtain⟨h1,h2⟩:=h
  by_cases e:p.1=k
  ·rw [if_pos e,if_pos (h1.symm.trans e)];exact⟨h1,ry⟩
  ·rw [if_neg e,if_neg (λ z=>e (h1.trans z))];exact⟨h1,h2⟩
theorem KV.put {kvs:List (κ × V)}{vs:List (κ × Value)}(r:KV kvs vs) (k:κ) {y:V}{u:Value}(ry:RelV y u):KV (putK kvs k y) (stored vs k u):=by
 unfold putK stored
 rw [r.any k]
 by_cases e:(vs.any λ kv=>decide (kv.1=k))=true
 ·rw [if_pos e,if_pos e];exact r.repl k ry
 ·rw [if_neg e,if_neg e];exact Paired.snoc r ⟨rfl,ry⟩
theorem KV.length {kvs:List (κ × V)}{vs:List (κ × Value)}(r:KV kvs vs):kvs.length=vs.length:=Paired.length r
end

theorem V8 {P:Program}{w:World}{k:Key}{u:Value}(r:RelV (kV k) u):(Cv P w).is k u=true:=by
 cases k with
 | inl i=>obtain⟨t,e⟩:=(show ∃ t,u=Value.int i t from r);subst e;exact Sv P w i t
 | inr x=>obtain⟨t,e⟩:=(show ∃ t,u=Value.str x t from r);subst e;exact Rz P w x t
theorem Iv {P:Program}{w:World}:∀ {ks:List Key}{us:List Value},Vals (ks.map kV) us->ItemsAre (Cv P w) ks us
 | [],_,r=>by rw [List.map_nil] at r;cases r;exact .nil
 | k :: ks,_,r=>by
  rw [List.map_cons] at r
  cases r with
  | cons h t=>exact .cons (V8 h) (Iv t)

noncomputable abbrev KT (H:Hp):List (List Key × V)->List (List Key × Addr × Value)->Prop:=Paired λ p q=>p.1=q.1/\H q.2.1=some (.tup (p.1.map kV))/\RelV p.2 q.2.2
theorem KT.val {H:Hp}{kvs:List (List Key × V)}{xs:List (List Key × Addr × Value)}(r:KT H kvs xs) (k:List Key):Wc (Wm kvs k) ((atKey xs k).map (·.2)):=by
 induction r with
 | nil=>exact True.intro
 | @cons p q ps qs h t ih =>
  obtain⟨h1,_,h2⟩:=h
  by_cases e:p.1=k
  ·have e':q.1=k:=h1.symm.trans e
   have b:atKey (q :: qs) k=some q.2:=by simp [atKey,List.find?_cons,e']
   rw [J0 e,b];exact h2
  ·have e':¬ q.1=k:=λ z=>e (h1.trans z)
   have b:atKey (q :: qs) k=atKey qs k:=by simp [atKey,List.find?_cons,e']
   rw [J9 e,b];exact ih
theorem KT.repl {H:Hp}{kvs:List (List Key × V)}{xs:List (List Key × Addr × Value)}(r:KT H kvs xs) (k:List Key) {y:V}{u:Value}(ry:RelV y u) :
  KT H (kvs.map λ kv=>if kv.1=k then (kv.1,y) else kv) (xs.map (putAt k u)):=by
 induction r with
 | nil=>exact .nil
 | @cons p q ps qs h t ih =>
  rw [List.map_cons,List.map_cons]
  refine .cons ?_ ih
  obtain⟨h1,h2,h3⟩:=h
  unfold putAt
  by_cases e:p.1=k
  ·rw [if_pos e,if_pos (h1.symm.trans e)];exact⟨h1,h2,ry⟩
  ·rw [if_neg e,if_neg (λ z=>e (h1.trans z))];exact⟨h1,h2,h3⟩
theorem KT.put {H:Hp}{kvs:List (List Key × V)}{xs:List (List Key × Addr × Value)}(r:KT H kvs xs) (k:List Key) {b:Addr}{y:V}{u:Value}(hb:H b=some (.tup (k.map kV))) (ry:RelV y u) :
  KT H (putK kvs k y) (storedH xs k b u):=by
 have e:(kvs.any λ kv=>decide (kv.1=k))=(atKey xs k).isSome:=by
  rw [U3,(r.val k).isSome_eq,Option.isSome_map]
 unfold putK storedH
 rw [e]
 by_cases q:(atKey xs k).isSome=true
 ·rw [if_pos q,if_pos q];exact r.repl k ry
 ·rw [if_neg q,if_neg q];exact Paired.snoc r ⟨rfl,hb,ry⟩
theorem KT.keeps {H H':Hp}{kvs:List (List Key × V)}{xs:List (List Key × Addr × Value)}(r:KT H kvs xs) (ht:∀ b ys,H b=some (.tup ys)->H' b=some (.tup ys)):KT H' kvs xs :=
 Paired.mapP r λ _ _ z=>⟨z.1,ht _ _ z.2.1,z.2.2⟩

section
variable {P:Program}{w:World}{H:Hp}{h:Heap}{a:Addr}
theorem Ajl {u:HO}(ok:HOk P w H h) (e:Rd H a u):Cp P w H h a u:=e.ok ok
theorem Td {kvs:List (Key × V)}(ok:HOk P w H h) (e:Rd H a (.dK kvs)):kvs.length<=sizeLine/\(a == sysModules)=false/\∃ vs,KV kvs vs/\h.DictOf (Cv P w) a vs :=
 show Cp P w H h a (.dK kvs) from Ajl ok e
theorem Al2 {kvs:List (Key × V)}(ok:HOk P w H h) (e:H a=some (.dK kvs)):kvs.length<=sizeLine/\(a == sysModules)=false/\∃ vs,KV kvs vs/\h.DictOf (Cv P w) a vs:=Td ok (.inl e)
theorem Nm {ks:List Key}(ok:HOk P w H h) (e:H a=some (.tup (ks.map kV))):(tupleKind (Cv P w)).is h ks a:=by
 obtain⟨_,its,r,o,h1,h2,n,h3⟩:=(show Cp P w H h a (.tup (ks.map kV)) from ok a _ e)
 exact⟨o,its.toArray,n,h1,h2,h3,by simpa using Iv r⟩
theorem Rk {kvs:List (List Key × V)}(ok:HOk P w H h) (e:Rd H a (.dT kvs)):kvs.length<=sizeLine/\(a == sysModules)=false ∧
  ∃ xs,KT H kvs xs/\h.DictOfH (tupleKind (Cv P w)) a xs:=by
 obtain⟨z,y,xs,r,o,es,ep,h1,h2,h3,h4,h5⟩:=(show Cp P w H h a (.dT kvs) from Ajl ok e)
 refine⟨z,y,xs,r,o,es,ep,h1,h2,h3,h4,λ x hx=>?_,h5⟩
 have all:∀ {l:List (List Key × V)} {m:List (List Key × Addr × Value)},KT H l m->∀ x∈m,(tupleKind (Cv P w)).is h x.1 x.2.1:=by
  intro l m q
  induction q with
  | nil=>intro x hx;exact nomatch hx
  | @cons p q ps qs hq t ih =>
   intro x hx
   rcases List.mem_cons.mp hx with e|hx
   ·subst e
    exact Nm ok (by rw [<-hq.1];exact hq.2.1)
   ·exact ih x hx
 exact all r x hx
theorem Al1 {kvs:List (List Key × V)}(ok:HOk P w H h) (e:H a=some (.dT kvs)):kvs.length<=sizeLine/\(a == sysModules)=false ∧
  ∃ xs,KT H kvs xs/\h.DictOfH (tupleKind (Cv P w)) a xs:=Rk ok (.inl e)
end

noncomputable def Zm (H:Hp) (a:Addr) (y:V) (r:Option V):Prop :=
 (∃ kvs k,Rd H a (.dK kvs)/\y=kV k/\r=Wm kvs k)\/∃ kvs k b,Rd H a (.dT kvs)/\y=.ref b/\H b=some (.tup (k.map kV))/\r=Wm kvs k
noncomputable def Ag6 (H:Hp) (a:Addr) (y v:V) (H':Hp):Prop :=
 (∃ kvs k,H a=some (.dK kvs)/\y=kV k/\kvs.length<sizeLine/\H'=upd H a (.dK (putK kvs k v))) ∨
 ∃ kvs k b,H a=some (.dT kvs)/\y=.ref b/\H b=some (.tup (k.map kV))/\kvs.length<sizeLine/\H'=upd H a (.dT (putK kvs k v))
theorem Ag6.t {H:Hp}{a b:Addr}{kvs:List (List Key × V)}{k:List Key}{v:V}(e:H a=some (.dT kvs)) (eb:H b=some (.tup (k.map kV))) (hl:kvs.length<sizeLine) :
  Ag6 H a (.ref b) v (upd H a (.dT (putK kvs k v))):=.inr ⟨kvs,k,b,e,rfl,eb,hl,rfl⟩

section
variable {X:Cx}{pins:List (Addr × Obj)}{σ:St}{H:Hp}{s:Shared}{a:Addr}{y v:V}{u r:Value}{o:Option V}{A:Around}{E:Value->Shared->Prop}

theorem Inv.big (I:Inv X pins σ H s):sysModules<s.heap.objs.size:=by
 have h:mainGlobals<s.heap.objs.size:=(I.mod.glob.keeps I.bk).lt
 exact Nat.lt_trans (by decide) h

theorem Zt {Q:Value->Shared->Prop}(hu:A.units+1<cLine) (I:Inv X pins σ H s) (g:Zm H a y (some v)) (ry:RelV y u) (h:∀ w' s',Inv X pins σ H s'->RelV v w'->Q w' s') :
  wpAny (model X.prog X.w) A (getItem (.ref a) u) Q E s:=by
 rcases g with ⟨kvs,k,e,ey,l⟩|⟨kvs,k,b,e,ey,eb,l⟩
 ·subst ey
  obtain⟨z,hd,vs,rel,dd⟩:=Td I.hok e
  obtain⟨w',hw,rw'⟩:=Wc.some_of (v:=v) (o:=valueAt vs k) (by rw [l];exact rel.val k)
  exact wpAny_getItem_of (V8 ry) dd.mapOf hw (h w' _ (I.tok _) rw')
 ·subst ey
  cases (show u=Value.ref b from ry)
  obtain⟨z,hd,xs,rel,dd⟩:=Rk I.hok e
  obtain⟨w',hw,rw'⟩:=Wc.some_of (v:=v) (o:=(atKey xs k).map (·.2)) (by rw [l];exact rel.val k)
  obtain⟨p,hp,hp2⟩:=Option.map_eq_some_iff.mp hw
  refine wpAny_getItem_heap (tupleKind_room_in1 hu) (Nm I.hok eb) dd hp ?_
  rw [hp2]
  exact h w' _ (I.tok _) rw'
theorem Ap7 {Q:Value->Shared->Prop}(hu:A.units+1<cLine) (I:Inv X pins σ H s) (g:Zm H a y o) (ry:RelV y u) (h:∀ s',Inv X pins σ H s'->Q (.bool o.isSome) s') :
  wpAny (model X.prog X.w) A (compareOp .In u (.ref a)) Q E s:=by
 rcases g with ⟨kvs,k,e,ey,l⟩|⟨kvs,k,b,e,ey,eb,l⟩
 ·subst ey
  obtain⟨z,hd,vs,rel,dd⟩:=Td I.hok e
  refine wpAny_in_of (V8 ry) hd dd.mapOf ?_
  rw [<-(rel.val k).isSome_eq,<-l]
  exact h _ (I.tok _)
 ·subst ey
  cases (show u=Value.ref b from ry)
  obtain⟨z,hd,xs,rel,dd⟩:=Rk I.hok e
  refine wpAny_in_heap (tupleKind_room_in1 hu) (Nm I.hok eb) hd dd ?_
  have q:=(rel.val k).isSome_eq
  rw [Option.isSome_map] at q
  rw [<-q,<-l]
  exact h _ (I.tok _)
theorem Af7 {Q:Value->Shared->Prop}(hu:A.units+1<cLine) (I:Inv X pins σ H s) (g:Zm H a y o) (ry:RelV y u) (h:∀ s',Inv X pins σ H s'->Q (.bool (!o.isSome)) s') :
  wpAny (model X.prog X.w) A (compareOp .NotIn u (.ref a)) Q E s:=by
 rcases g with ⟨kvs,k,e,ey,l⟩|⟨kvs,k,b,e,ey,eb,l⟩
 ·subst ey
  obtain⟨z,hd,vs,rel,dd⟩:=Td I.hok e
  refine wpAny_notIn_of (V8 ry) hd dd.mapOf ?_
  rw [<-(rel.val k).isSome_eq,<-l]
  exact h _ (I.tok _)
 ·subst ey
  cases (show u=Value.ref b from ry)
  obtain⟨z,hd,xs,rel,dd⟩:=Rk I.hok e
  refine wpAny_notIn_heap (tupleKind_room_in1 hu) (Nm I.hok eb) hd dd ?_
  have q:=(rel.val k).isSome_eq
  rw [Option.isSome_map] at q
  rw [<-q,<-l]
  exact h _ (I.tok _)
theorem W8 {h':Heap}{t':Nat}{ob:HO}(I:Inv X pins σ H s) (mu:Mut (H a)) (hs:Heap.SameBut a s.heap h') (he:∃ q,h'.get? a=some q) (new:Cp X.prog X.w (upd H a ob) h' a ob) :
  Inv X pins σ (upd H a ob) { s with heap:=h',toks:=t' } :=
 I.write (x:=a) (e:=a) mu (.inl rfl) (λ b q hb z=>(hs.2 b hb).trans z) he new
theorem Ajh {P:Program}{w:World}{H':Hp}{h':Heap}{kvs:List (Key × V)}{vs:List (Key × Value)}(z:kvs.length<=sizeLine) (hd:(a == sysModules)=false) (rel:KV kvs vs) (dd:h'.DictOf (Cv P w) a vs) :
  Cp P w H' h' a (.dK kvs):=⟨z,hd,vs,rel,dd⟩
theorem Yy {H':Hp}{Q:Unit->Shared->Prop}(hu:A.units+1<cLine) (I:Inv X pins σ H s) (g:Ag6 H a y v H') (ry:RelV y u) (rv:RelV v r) (h:∀ s',Inv X pins σ H' s'->Q () s') :
  wpAny (model X.prog X.w) A (setItem (.ref a) u r) Q E s:=by
 rcases g with ⟨kvs,k,e,ey,l,eH⟩|⟨kvs,k,b,e,ey,eb,l,eH⟩
 ·subst ey eH
  obtain⟨z,hd,vs,rel,dd⟩:=Al2 I.hok e
  have hz:vs.length<=sizeLine:=by rw [<-rel.length];exact z
  have hl:(putK kvs k v).length<=sizeLine:=by have:=Lf kvs k v;omega
  refine wpAny_setItem_pairs (hsz:=hz) (V8 ry) dd λ h' dd' hs=>h _ ?_
  have he:∃ q,h'.get? a=some q:=let ⟨q,_,_,hq,_⟩:=dd';⟨q,hq⟩
  exact W8 I (by rw [e];exact True.intro) hs he (Ajh hl hd (rel.put k rv) dd')
 ·subst ey eH
  cases (show u=Value.ref b from ry)
  obtain⟨z,hd,xs,rel,dd⟩:=Al1 I.hok e
  have hz:xs.length<=sizeLine:=by rw [<-Paired.length rel];exact z
  have hl:(putK kvs k v).length<=sizeLine:=by have:=Lf kvs k v;omega
  refine wpAny_setItem_heap (hsz:=hz) (tupleKind_room_in1 hu) (Nm I.hok eb) dd λ h' dd' hs=>h _ ?_
  obtain⟨q,es,ep,hq,h2,h3,h4,_,h5⟩:=dd'
  refine W8 I (by rw [e];exact True.intro) hs ⟨q,hq⟩ ⟨hl,hd,_,(rel.put k eb rv).keeps λ c ys ec=>?_,q,es,ep,hq,h2,h3,h4,h5⟩
  rw [Ah (Vq ec e (λ z=>nomatch z))]
  exact ec
end

section
variable {X:Cx}{pins:List (Addr × Obj)}{σ:St}{H:Hp}{s:Shared}{a:Addr}{kvs:List (Key × V)}{k:Key}{u:Value}{A:Around}{E:Value->Shared->Prop}
end

noncomputable def Akk (i:Expr):Prop:=∀ ov iv,subscripted i false ov iv=operate [ov,iv] (getItem ov iv)
theorem Ae3 {prog:Program}{w:World}{A:Around}{E:Value->Shared->Prop}{s:Shared}{env:Env}{value slice:Expr}{pos:Pos}{T id:String}{Q:Value->Shared->Prop}
  (hl:typeLookup (.type T) "__getitem__"=pure (some (.builtin id))) (hs:Akk slice)
  (h:wpAny (model prog w) A (eval value env) (λ o s₁=>wpAny (model prog w) A (eval slice env) (λ i s₂=>s₂.TypeIs o T/\wpAny (model prog w) A (getItem o i) Q E s₂) E s₁) E s) :
  wpAny (model prog w) A (eval (.Subscript value slice pos) env) Q E s:=by
 refine Subscript_ (wpAny_mono h (λ o s₁ h₁=>wpAny_mono h₁ (λ i s₂ h₂=>?_) λ _ _ x=>x) λ _ _ x=>x)
 obtain⟨hT,h₂⟩:=h₂
 unfold subscriptTail
 refine wpAny_bind ?_
 rw [getitemInPython_of_ne hT.not_modules]
 refine wpAny_bind (wpAny_specialOf hT hl ?_)
 have fin:wpAny (model prog w) A (subscripted slice false o i) (λ r s₃=>wpAny (model prog w) A (letTemporaryGo value o r >>= λ _=>pure r) Q E s₃) E s₂:=by
  rw [hs o i]
  exact wpAny_operating (wpAny_mono h₂ (λ r s₃ h₃=>wpAny_bind (wpAny_letTemporaryGo (wpAny_pure h₃))) λ _ _ x=>x)
 first
  | exact wpAny_pure (wpAny_bind fin)
  | exact wpAny_bind (wpAny_pure (wpAny_bind fin))
  | exact wpAny_bind fin

theorem S7 {X:Cx}{pins:List (Addr × Obj)}{σ:St}{H:Hp}{s:Shared}{a:Addr}{y:V}{o:Option V}(I:Inv X pins σ H s) (g:Zm H a y o):s.TypeIs (.ref a) "dict":=by
 rcases g with ⟨kvs,k,e,_,_⟩|⟨kvs,k,b,e,_,_,_⟩
 ·obtain⟨_,_,vs,_,dd⟩:=Td I.hok e
  exact dd.typeIs
 ·obtain⟨_,_,xs,_,dd⟩:=Rk I.hok e
  exact dd.typeIs

noncomputable def Amx (td ty:TE):TE:=λ σ H Q=>td σ H λ x H1=>ty σ H1 λ y H2=>∃ a v,x=.ref a/\Zm H2 a y (some v)/\Q v H2
noncomputable def Aog (ty td:TE):TE:=λ σ H Q=>ty σ H λ y H1=>td σ H1 λ x H2=>∃ a o,x=.ref a/\Zm H2 a y o/\Q (.bl o.isSome) H2
noncomputable def Xp (ty td:TE):TE:=λ σ H Q=>ty σ H λ y H1=>td σ H1 λ x H2=>∃ a o,x=.ref a/\Zm H2 a y o/\Q (.bl (!o.isSome)) H2
noncomputable def Amy (td ty tv:TE):TS:=λ D σ H=>tv σ H λ v H1=>td σ H1 λ x H2=>ty σ H2 λ y H3=>∃ a H4,x=.ref a/\Ag6 H3 a y v H4/\D.nx σ H4

section
variable {X:Cx}{o i e value:Expr}{pos pos' tpos:Pos}{td ty tv:TE}
theorem Aer (hu:X.A.units+1<cLine) (ho:PE X o td) (hi:PE X i ty) (hs:Akk i):PE X (.Subscript o i pos) (Amx td ty):=by
 intro pins s σ H Q I h
 refine Ae3 PySem.F.slot_dict_getitem.lookup hs (thn (ho pins s σ H _ I h) λ u s1 ⟨x,H1,I1,rx,q1⟩=>thn (hi pins s1 σ H1 _ I1 q1) ?_)
 rintro iv s2 ⟨y,H2,I2,ry,a,v,ex,g,q2⟩
 subst ex
 obtain rfl:u=Value.ref a:=rx
 exact⟨S7 I2 g,Zt hu I2 g ry λ w' s3 I3 rw'=>⟨v,H2,I3,rw',q2⟩⟩
theorem Aiz (hu:X.A.units+1<cLine) (hi:PE X i ty) (ho:PE X o td):PC X .In i o (Aog ty td):=by
 intro pins s σ H Q I h
 refine thn (hi pins s σ H _ I h) λ iv s1 ⟨y,H1,I1,ry,q1⟩=>thn (ho pins s1 σ H1 _ I1 q1) ?_
 rintro u s2 ⟨x,H2,I2,rx,a,ov,ex,g,q2⟩
 subst ex
 obtain rfl:u=Value.ref a:=rx
 exact Ap7 hu I2 g ry λ s3 I3=>⟨.bl ov.isSome,H2,I3,rfl,q2⟩
theorem Aal (hu:X.A.units+1<cLine) (hi:PE X i ty) (ho:PE X o td):PC X .NotIn i o (Xp ty td):=by
 intro pins s σ H Q I h
 refine thn (hi pins s σ H _ I h) λ iv s1 ⟨y,H1,I1,ry,q1⟩=>thn (ho pins s1 σ H1 _ I1 q1) ?_
 rintro u s2 ⟨x,H2,I2,rx,a,ov,ex,g,q2⟩
 subst ex
 obtain rfl:u=Value.ref a:=rx
 exact Af7 hu I2 g ry λ s3 I3=>⟨.bl (!ov.isSome),H2,I3,rfl,q2⟩
theorem Ae0 (hu:X.A.units+1<cLine) (ho:PE X o td) (hi:PE X i ty) (hv:PE X value tv) (hs:swapsWith value (some (.Subscript o i pos')) pos.line X.env=pure false) :
  PS X (.Assign [.Subscript o i pos'] value pos) (Amy td ty tv):=by
 intro pins s σ H D I h
 refine wpAny_Assign_Subscript (thn (hv pins s σ H _ I h) λ r s1 ⟨v,H1,I1,rv,q1⟩=>thn (ho pins s1 σ H1 _ I1 q1) λ u s2 ⟨x,H2,I2,rx,q2⟩=>thn (hi pins s2 σ H2 _ I2 q2) ?_) hs
 rintro iv s3 ⟨y,H3,I3,ry,a,H4,ex,g,q3⟩
 subst ex
 obtain rfl:u=Value.ref a:=rx
 exact Yy hu I3 g ry rv λ s4 I4=>⟨σ,H4,I4,q3⟩
end

theorem Aa7 {P:Program}{w:World}{H:Hp}(h:Heap) (hb:sysModules<h.objs.size):Cp P w H (h.push { cls:=.type "dict",data:=.dict #[] }) h.objs.size (.dT []) :=
 ⟨Nat.zero_le _,beq_eq_false_iff_ne.mpr (Ne.symm (Nat.ne_of_lt hb)),[],.nil,_,#[],0,Heap.get?_push_size _ rfl,⟨rfl,rfl,rfl⟩,rfl,rfl,List.nodup_nil⟩
noncomputable def Ahq:TE:=λ _ H Q=>∀ p,H p=none->Q (.ref p) (upd H p (.dT []))
section
variable {X:Cx}{pos:Pos}
theorem Aay:PE X (.Dict [] [] pos) Ahq:=λ pins s σ H Q I h =>
 wpAny_Dict_empty ⟨.ref s.heap.objs.size,_,I.laid (a:=s.heap.objs.size) (o:=.dT []) (t':=s.toks) (λ _ _ q=>Heap.get?_push_of_some _ q) (Nat.le_refl _) (Aa7 s.heap I.big),rfl,h _ (I.hok.fresh (Nat.le_refl _))⟩
end

structure M1 (X:Cx) (o:Expr) (m:Str) (apos:Pos) (e:Expr) (cpos:Pos):Prop where
 base:attributeBase o m X.env (eval o X.env)=eval o X.env
 few:((backTo cpos (starEach [e] X.env)).all (λ x=>!x.1) && (backToKw cpos (keywordEach [] X.env)).all (λ x=>x.1.isSome)
  && decide (([e]:List Expr).length+([]:List Keyword).length+(if ([]:List Keyword).isEmpty then 0 else 1)<30))=true
 line:(apos.endLine == cpos.line)=true
 trees:backTo cpos (starEach [e] X.env)=[(false,eval e X.env)]
structure M2 (X:Cx) (o:Expr) (m:Str) (apos:Pos) (e f:Expr) (cpos:Pos):Prop where
 base:attributeBase o m X.env (eval o X.env)=eval o X.env
 few:((backTo cpos (starEach [e,f] X.env)).all (λ x=>!x.1) && (backToKw cpos (keywordEach [] X.env)).all (λ x=>x.1.isSome)
  && decide (([e,f]:List Expr).length+([]:List Keyword).length+(if ([]:List Keyword).isEmpty then 0 else 1)<30))=true
 line:(apos.endLine == cpos.line)=true
 trees:backTo cpos (starEach [e,f] X.env)=[(false,eval e X.env),(false,eval f X.env)]

noncomputable def IsD (H:Hp) (a:Addr):Prop:=(∃ kvs,Rd H a (.dK kvs))\/∃ kvs,Rd H a (.dT kvs)
theorem Ah4 {X:Cx}{pins:List (Addr × Obj)}{σ:St}{H:Hp}{s:Shared}{a:Addr}(I:Inv X pins σ H s) (d:IsD H a) :
  s.TypeIs (.ref a) "dict"/\(∀ b,Value.ref a=.ref b->∃ ob,s.heap.get? b=some ob/\ob.dict=none)/\(a == sysModules)=false:=by
 rcases d with ⟨kvs,e⟩|⟨kvs,e⟩
 ·obtain⟨_,hd,vs,_,dd⟩:=Td I.hok e
  refine⟨dd.typeIs,λ b q=>?_,hd⟩
  cases q
  obtain⟨ob,_,_,h1,h2,_⟩:=dd
  exact⟨ob,h1,h2.2.1⟩
 ·obtain⟨_,hd,xs,_,dd⟩:=Rk I.hok e
  refine⟨dd.typeIs,λ b q=>?_,hd⟩
  cases q
  obtain⟨ob,_,_,h1,h2,_⟩:=dd
  exact⟨ob,h1,h2.2.1⟩

section
variable {X:Cx}{pins:List (Addr × Obj)}{σ:St}{H:Hp}{s:Shared}{a:Addr}{y d:V}{u r:Value}{o:Option V}{A:Around}{E:Value->Shared->Prop}
theorem Ajt {Q:Value->Shared->Prop}(hu:A.units+1<cLine) (I:Inv X pins σ H s) (g:Zm H a y o) (ry:RelV y u) (rd:RelV d r) (h:∀ w' s',Inv X pins σ H s'->RelV (o.getD d) w'->Q w' s') :
  wpAny (model X.prog X.w) A (call (.builtin "dict.get") [.ref a,u,r]) Q E s:=by
 rcases g with ⟨kvs,k,e,ey,l⟩|⟨kvs,k,b,e,ey,eb,l⟩
 ·subst ey
  obtain⟨z,hd,vs,rel,dd⟩:=Td I.hok e
  refine call_meetsIn PySem.F.slot_dict_get dd.typeIs PySem.F.entry_dict_get (PySem.F.args_dict_get_3 _ _ _) (meets_dict_get_default (Cv X.prog X.w) a (V8 ry) hd r) ⟨_,dd.mapOf,h _ _ (I.tok _) ?_⟩
  rw [l]
  exact (rel.val k).getD rd
 ·subst ey
  cases (show u=Value.ref b from ry)
  obtain⟨z,hd,xs,rel,dd⟩:=Rk I.hok e
  refine call_meetsIn PySem.F.slot_dict_get dd.typeIs PySem.F.entry_dict_get (PySem.F.args_dict_get_3 _ _ _) (meetsH_dict_get_default (tupleKind (Cv X.prog X.w)) a b hd r) ⟨tupleKind_room_in1 hu,k,xs,Nm I.hok eb,dd,h _ _ (I.tok _) ?_⟩
  rw [l]
  exact (rel.val k).getD rd
end

noncomputable def Ajb (td ty tx:TE):TE:=λ σ H Q=>td σ H λ x H1=>∃ a,x=.ref a/\IsD H1 a/\ty σ H1 λ y H2=>tx σ H2 λ z H3=>∃ o,Zm H3 a y o/\Q (o.getD z) H3
section
variable {X:Cx}{o e f:Expr}{apos cpos:Pos}{td ty tx:TE}
theorem Aaz (hu:X.A.units+1<cLine) (ho:PE X o td) (he:PE X e ty) (hf:PE X f tx) (m:M2 X o "get" apos e f cpos):PE X (.Call (.Attribute o "get" apos) [e,f] [] cpos) (Ajb td ty tx):=by
 intro pins s σ H Q I h
 refine wpAny_Call_method m.base m.few m.line PySem.F.plainAttrs_dict PySem.F.slot_dict_get PySem.F.type_dict_get (thn (ho pins s σ H _ I h) ?_)
 rintro u s1 ⟨x,H1,I1,rx,a,ex,d,q1⟩
 subst ex
 obtain rfl:u=Value.ref a:=rx
 obtain⟨t1,t2,_⟩:=Ah4 I1 d
 refine⟨t1,t2,?_⟩
 rw [m.trees]
 refine Calls.callWith_builtin rfl (Calls.evalArgs_plain (Calls.spliced_cons (thn (he pins s1 σ H1 _ I1 q1) λ iv s2 ⟨y,H2,I2,ry,q2⟩ =>
  Calls.spliced_cons (thn (hf pins s2 σ H2 _ I2 q2) λ fv s3 ⟨z,H3,I3,rz,ov,g,q3⟩=>Calls.spliced_nil ?_))))
 exact Ajt hu I3 g ry rz λ w' s4 I4 rw'=>⟨_,H3,I4,rw',q3⟩
end

section
variable {X:Cx}{pins:List (Addr × Obj)}{σ:St}{H:Hp}{s:Shared}{a:Addr}{kvs:List (Key × V)}{A:Around}{E:Value->Shared->Prop}
end

section
variable {X:Cx}{pins:List (Addr × Obj)}{σ:St}{H:Hp}{s:Shared}{a:Addr}{y:V}{u:Value}{A:Around}{E:Value->Shared->Prop}
end
end L2
namespace HT
open PySem PyProof.Rows

noncomputable def lexLt:List Int->List Int->Bool
 | [],[]=>false
 | [],_ :: _=>true
 | _ :: _,[]=>false
 | x :: xs,y :: ys=>if x=y then lexLt xs ys else decide (x<y)
theorem lexLt_cons (x y:Int) (xs ys:List Int):lexLt (x :: xs) (y :: ys)=if x=y then lexLt xs ys else decide (x<y):=rfl
theorem lexLt_nil_nil:lexLt [] []=false:=rfl
theorem lexLt_nil_cons (y:Int) (ys:List Int):lexLt [] (y :: ys)=true:=rfl
theorem lexLt_cons_nil (x:Int) (xs:List Int):lexLt (x :: xs) []=false:=rfl

theorem Abd (A:Around) (s:Shared) (a:Int) (t:Tok) (c:Int) (u:Tok):∃ e,SeqAt.EqAt A s (.int a t) (.int c u) e/\(e=true ↔ a=c) :=
 ⟨(a == c),SeqAt.EqAt.int_int a t c u,by simp⟩
theorem Abg (A:Around) (s:Shared) (a:Int) (t:Tok) (c:Int) (u:Tok) (prog:Program) (w:World) (E:Value->Shared->Prop) (Q:Value->Shared->Prop) (h:Q (.bool (decide (a<c))) s) :
  wpAny (model prog w) A (richCompare .Lt (.int a t) (.int c u)) Q E s :=
 (PyProof.Rows.lt_int h:wpAny (model prog w) A (compareOp .Lt (.int a t) (.int c u)) Q E s)

section
open PySem.SeqAt
open PySem.AutoSeq1 (wpAny_loadPart')
open PySem.MeetsSeq PySem.MeetsSeq2 PySem.MeetsSeq3

theorem Nv (l b:Addr) (items items2:Array Value) (n n2:Nat) (dd dd2:Option Addr) (sl sl2:Array (Option Value)) (ns ms:List Int) (hi:IntsAre items.toList ns) (hj:IntsAre items2.toList ms) :
  Meets (Builtin.«tuple.__lt__» ⟨[.ref l,.ref b],[]⟩)
   (λ _ R s=>s.heap.get? l=some { cls:=.type "tuple",dict:=dd,data:=.seq items n,slots:=sl }/\s.heap.get? b=some { cls:=.type "tuple",dict:=dd2,data:=.seq items2 n2,slots:=sl2 } ∧
    R (.ok (.ret (.bool (lexLt ns ms)))) s) :=
 .of_wp λ prog w A R s h=>by
  obtain⟨hp,g,d,tk,os⟩:=s;obtain⟨hl,hb,h⟩:=h
  have f2:=AutoSeq1.sub_tuple_tuple
  have z1:items.size=ns.length:=by rw [<-hi.length];simp
  have z2:items2.size=ms.length:=by rw [<-hj.length];simp
  wp_walk using wpAny_loadPart' hl,wpAny_loadPart' hb,wpAny_forIn_list _ (λ rest b s'=>b.1=none/\s'=⟨hp,g,d,tk,os⟩/\∃ (vs ws:List Value) (ns' ms':List Int),rest=vs.zip ws ∧
   IntsAre vs ns'/\IntsAre ws ms'/\ns'.length+items2.size=ms'.length+items.size/\R (.ok (.ret (.bool (lexLt ns' ms')))) ⟨hp,g,d,tk,os⟩) _
  case turn =>
   rintro⟨y,x⟩ rest b s' ⟨hb',rfl,vs,ws,ns',ms',hz,hvi,hwi,hlen,hR⟩
   cases hvi with
   | nil=>rw [List.zip_nil_left] at hz;cases hz
   | cons a t hvi' =>
    cases hwi with
    | nil=>rw [List.zip_nil_right] at hz;cases hz
    | cons c u hwi' =>
     rw [List.zip_cons_cons] at hz
     injection hz with hyx hrest
     injection hyx with hy hx
     subst hy hx
     rw [lexLt_cons] at hR
     simp only [List.length_cons] at hlen
     obtain⟨e,he,hiff⟩:=Abd A.in1 ⟨hp,g,d,tk,os⟩ a t c u
     refine wpAny_bind (he prog w _ _ ?_)
     cases e with
     | true =>
      rw [if_pos (hiff.mp rfl)] at hR
      wp_walk
      exact⟨rfl,rfl,_,_,_,_,hrest,hvi',hwi',by omega,hR⟩
     | false =>
      rw [if_neg (λ q=>absurd (hiff.mpr q) Bool.false_ne_true)] at hR
      have hri:=Abg A.in1 ⟨hp,g,d,tk,os⟩ a t c u prog w
      wp_walk using hri
      exact⟨_,rfl,by simpa using hR⟩
  case fin =>
   rintro⟨b1,b2⟩ s' ⟨hb',rfl,vs,ws,ns',ms',hz,hvi,hwi,hlen,hR⟩
   simp only at hb'
   subst hb'
   have hv:lexLt ns' ms'=decide (items.size<items2.size):=by
    cases hvi with
    | nil =>
     cases hwi with
     | nil =>
      simp only [List.length_nil] at hlen
      rw [lexLt_nil_nil]
      exact (decide_eq_false (by omega)).symm
     | cons c u hw =>
      simp only [List.length_nil,List.length_cons] at hlen
      rw [lexLt_nil_cons]
      exact (decide_eq_true (by omega)).symm
    | cons a t hv =>
     cases hwi with
     | nil =>
      simp only [List.length_nil,List.length_cons] at hlen
      rw [lexLt_cons_nil]
      exact (decide_eq_false (by omega)).symm
     | cons c u hw =>
      rw [List.zip_cons_cons] at hz
      cases hz
   rw [hv] at hR
   wp_walk
   exact⟨_,rfl,by simpa [Builtin.Tuple.tupleCompareSizes] using hR⟩
  case h =>
   exact⟨rfl,rfl,items.toList,items2.toList,ns,ms,rfl,hi,hj,by omega,h⟩
end

section
variable {prog:Program}{w:World}{A:Around}{E:Value->Shared->Prop}{s:Shared}

theorem lt_tupInts {l b:Addr}{items items2:Array Value}{ns ms:List Int}{Q:Value->Shared->Prop}(hl:IsTup s.heap l items) (hb:IsTup s.heap b items2) (hi:IntsAre items.toList ns) (hj:IntsAre items2.toList ms)
  (hu:A.units<cLine) (h:Q (.bool (lexLt ns ms)) s):wpAny (model prog w) A (compareOp .Lt (.ref l) (.ref b)) Q E s:=by
 obtain⟨⟨cls,dd,data,sl⟩,ho,hc,n,hd⟩:=id hl
 obtain⟨⟨cls2,dd2,data2,sl2⟩,ho2,hc2,n2,hd2⟩:=id hb
 simp only at hc hd hc2 hd2
 subst hc hd hc2 hd2
 exact richCompare_meets_room (op:=.Lt) ⟨_,ho,rfl⟩ ⟨_,ho2,rfl⟩ PySem.F.slot_tuple_lt PySem.F.entry_tuple_lt (PySem.F.args_tuple_lt_2 _ _) (Nv l b items items2 n n2 dd dd2 sl sl2 ns ms hi hj)
  ⟨ho,ho2,show Value.bool (lexLt ns ms)≠Value.notImplemented/\Q (.bool (lexLt ns ms)) s from ⟨(λ x=>nomatch x),h⟩⟩ hu

noncomputable def sIx (n d:Nat):Option Int->Nat
 | none=>d
 | some v=>if v<0 then (v+(n:Int)).toNat else min v.toNat n
theorem sIx_none (n d:Nat):sIx n d none=d:=rfl
theorem sIx_nat (n d k:Nat):sIx n d (some (k:Int))=min k n:=by
 show (if (k:Int)<0 then ((k:Int)+(n:Int)).toNat else min (k:Int).toNat n)=min k n
 rw [if_neg (by omega),Int.toNat_natCast]
theorem Ai5 (n d:Nat) (hd:d<=n) (o:Option Int):sIx n d o<=n:=by
 cases o with
 | none=>exact hd
 | some v =>
  show (if v<0 then (v+(n:Int)).toNat else min v.toNat n)<=n
  by_cases hv:v<0
  ·rw [if_pos hv];omega
  ·rw [if_neg hv];exact Nat.min_le_right _ _
theorem Zb (v:Int) (n d:Nat):(if v<0 then max (v+(n:Int)) 0 else min v (n:Int))=((sIx n d (some v):Nat):Int):=by
 show (if v<0 then max (v+(n:Int)) 0 else min v (n:Int))=(((if v<0 then (v+(n:Int)).toNat else min v.toNat n):Nat):Int)
 by_cases hv:v<0
 ·simp only [if_pos hv];omega
 ·simp only [if_neg hv];omega
theorem V0 (lo hi:Option Int) (n:Nat):Builtin.Slice.sliceAdjust lo hi 1 (n:Int)=(((sIx n 0 lo:Nat):Int),((sIx n n hi:Nat):Int)):=by
 have h1:¬ ((1:Int)<0):=by omega
 unfold Builtin.Slice.sliceAdjust
 simp only [h1,if_false]
 refine Prod.ext ?_ ?_
 ·cases lo with
  | none=>rfl
  | some v=>exact Zb v n 0
 ·cases hi with
  | none=>rfl
  | some v=>exact Zb v n n
theorem Wt (i j:Nat):Builtin.Slice.slicePlaces (i:Int) (j:Int) 1=j-i:=by
 unfold Builtin.Slice.slicePlaces
 have h1:(1:Int) > 0:=by omega
 simp only [h1,if_true,Int.ediv_one]
 split<;>omega
theorem M4 {v:Value}{o:Option Int}{Q:Option Int->Shared->Prop}(p:IsPart v o) (h:Q o s):wpAny (model prog w) A (Builtin.Slice.slicePartIndex v) Q E s:=by
 cases p with
 | none=>exact slicePart_none h
 | int i t=>exact slicePart_int h
theorem Ju {sl:Addr}{vl vu:Value}{lo hi:Option Int}{n:Nat}{Q:Int × Int × Nat->Shared->Prop}(hs:s.heap.IsSliceOf sl vl vu .none) (pl:IsPart vl lo) (pu:IsPart vu hi)
  (h:Q (((sIx n 0 lo:Nat):Int),1,sIx n n hi-sIx n 0 lo) s):wpAny (model prog w) A (Builtin.Slice.sliceApplied (.ref sl) (pure (n:Int))) Q E s:=by
 obtain⟨os,hos,hcs,hds⟩:=id hs
 unfold Builtin.Slice.sliceApplied Builtin.Slice.sliceFields
 refine wpAny_bind (wpAny_bind (wpAny_field hos hds (x:=vl) rfl (wpAny_bind (wpAny_field hos hds (x:=vu) rfl (wpAny_bind (wpAny_field hos hds (x:=.none) rfl (wpAny_pure ?_)))))))
 refine wpAny_bind (slicePart_none ?_)
 show wpAny _ _ (if ((1:Int) == 0)=true then _ else _) _ _ s
 rw [if_neg (by decide)]
 refine wpAny_bind (M4 pl (wpAny_bind (M4 pu (wpAny_bind (wpAny_pure ?_)))))
 show wpAny _ _ (match Builtin.Slice.sliceAdjust lo hi 1 (n:Int) with|(lo,hi)=>pure (lo,(1:Int),Builtin.Slice.slicePlaces lo hi 1)) _ _ s
 rw [V0 lo hi n]
 show wpAny _ _ (pure (((sIx n 0 lo:Nat):Int),(1:Int),Builtin.Slice.slicePlaces ((sIx n 0 lo:Nat):Int) ((sIx n n hi:Nat):Int) 1)) _ _ s
 rw [Wt]
 exact wpAny_pure h
theorem Abx (xs:Array Value) (i k:Nat):((List.range k).filterMap λ (m:Nat)=>xs[((i:Int)+(m:Int) * 1).toNat]?).toArray=((xs.toList.drop i).take k).toArray:=by
 have e:(λ (m:Nat)=>xs[((i:Int)+(m:Int) * 1).toNat]?)=λ m=>xs[i+m]?:=by
  funext m
  have:((i:Int)+(m:Int) * 1).toNat=i+m:=by omega
  rw [this]
 rw [e]
 have:=pick_run xs i k
 rw [List.filterMap_map] at this
 have e2:((λ x=>xs[x]?) ∘ λ x=>i+x)=λ m=>xs[i+m]?:=rfl
 rw [e2] at this
 rw [this]

theorem getItem_tuple_cut {t sl:Addr}{items:Array Value}{vl vu:Value}{lo hi:Option Int}{Q:Value->Shared->Prop}(ht:IsTup s.heap t items) (hs:s.heap.IsSliceOf sl vl vu .none) (pl:IsPart vl lo) (pu:IsPart vu hi)
  (hw:¬ (sIx items.size 0 lo=0/\sIx items.size items.size hi=items.size))
  (h:Q (.ref s.heap.objs.size) { s with heap:=s.heap.push { cls:=.type "tuple",data:=.seq ((items.toList.drop (sIx items.size 0 lo)).take (sIx items.size items.size hi-sIx items.size 0 lo)).toArray } })
  (hsz:items.size<=sizeLine):wpAny (model prog w) A (getItem (.ref t) (.ref sl)) Q E s:=by
 have htake:sizeOk (.seq ((items.toList.drop (sIx items.size 0 lo)).take (sIx items.size items.size hi-sIx items.size 0 lo)).toArray):=by
  show ((items.toList.drop (sIx items.size 0 lo)).take (sIx items.size items.size hi-sIx items.size 0 lo)).toArray.size<=sizeLine
  rw [List.size_toArray,List.length_take,List.length_drop,Array.length_toList]
  omega (config:={})
 have hj:sIx items.size items.size hi<=items.size:=Ai5 _ _ (Nat.le_refl _) hi
 obtain⟨os,hos,hcs,hds⟩:=id hs
 have hTs:s.TypeIs (.ref sl) "slice":=⟨os,hos,hcs⟩
 unfold getItem
 try with_reducible refine wpAny_holding ?_
 first|refine wpAny_bind (wpAny_pure ?_)|skip
 refine wpAny_bind (wpAny_sequenceKey ht.typeIs (by decide) ?_)
 refine wpAny_bind (wpAny_callSpecial?_slot (name:=Str.ofString "__getitem__") ht.typeIs PyProof.Rows.slot_tuple_getitem
  (wpAny_call_entry PyProof.Rows.slot_tuple_getitem ht.typeIs entry_tuple_getitem ?_ (args_tuple_getitem _ _)))
 show wpAny _ _ (Builtin.Tuple.tupleItemsOf (.ref t) >>= _) _ _ s
 refine wpAny_bind (tupleItemsOf_ ht ?_)
 refine wpAny_bind (wpAny_typeOf hTs ?_)
 rw [if_pos (by decide)]
 refine wpAny_bind (Ju hs pl pu ?_)
 have hno:¬ ((((sIx items.size 0 lo:Nat):Int) == 0 && (1:Int) == 1 && (sIx items.size items.size hi-sIx items.size 0 lo) == items.size)=true):=by
  intro q
  rw [Bool.and_eq_true,Bool.and_eq_true] at q
  have q1:((sIx items.size 0 lo:Nat):Int)=0:=eq_of_beq q.1.1
  have q2:sIx items.size items.size hi-sIx items.size 0 lo=items.size:=eq_of_beq q.2
  exact hw ⟨by omega,by omega⟩
 show wpAny _ _ (if (((sIx items.size 0 lo:Nat):Int) == 0 && (1:Int) == 1 && (sIx items.size items.size hi-sIx items.size 0 lo) == items.size)=true then _ else _) _ _ s
 rw [if_neg hno,Abx]
 first
  | exact wpAny_bind (m:=Builtin.Tuple.tupleExact _) (wpAny_newObj_type (wpAny_pure ⟨_,rfl,wpAny_pure h⟩) htake)
  | exact wpAny_bind (m:=Builtin.Tuple.tupleExact _) (wpAny_newObj_type (wpAny_bind (wpAny_pure (wpAny_pure ⟨_,rfl,wpAny_pure h⟩))) htake)
  | exact wpAny_bind (wpAny_bind (m:=Builtin.Tuple.tupleExact _) (wpAny_newObj_type (wpAny_pure (wpAny_pure ⟨_,rfl,wpAny_pure h⟩)) htake))
  | exact wpAny_bind (wpAny_bind (m:=Builtin.Tuple.tupleExact _) (wpAny_newObj_type (wpAny_pure ⟨_,rfl,wpAny_pure h⟩) htake))
end
end HT

namespace L2
open PySem PySem.Spec PyProof.Rows

noncomputable abbrev TO:=St->Hp->(Option Int->Hp->Prop)->Prop
noncomputable def PO (X:Cx) (e:Option Expr) (t:TO):Prop :=
 ∀ (pins:List (Addr × Obj)) (s:Shared) (σ:St) (H:Hp) (Q:Option Int->Hp->Prop),Inv X pins σ H s->t σ H Q →
  wpAny (model X.prog X.w) X.A (evalPart e X.env) (λ u s'=>∃ o H',Inv X pins σ H' s'/\IsPart u o/\Q o H') X.xe s
noncomputable def Agl:TO:=λ _ H Q=>Q none H
noncomputable def Alv (t:TE):TO:=λ σ H Q=>t σ H λ x H1=>∃ i,x=.int i/\Q (some i) H1

theorem intsAre_of {ns:List Int}:∀ {us:List Value},Vals (ns.map V.int) us->IntsAre us ns:=by
 induction ns with
 | nil=>intro us r;rw [List.map_nil] at r;cases r;exact .nil
 | cons n ns ih =>
  intro us r
  rw [List.map_cons] at r
  cases r with
  | cons r1 r2 =>
   obtain⟨t,e⟩:=r1
   subst e
   exact .cons n t (ih r2)

section
variable {X:Cx}{e:Expr}{te:TE}{lo hi:Option Expr}{tl th:TO}{pos p2:Pos}

theorem Afx:PO X none Agl:=by
 intro pins s σ H Q I h
 rw [evalPart_none]
 exact wpAny_pure ⟨none,H,I,.none,h⟩
theorem Aej (h:PE X e te):PO X (some e) (Alv te):=by
 intro pins s σ H Q I hw
 rw [evalPart_some]
 refine thn (h pins s σ H _ I hw) ?_
 rintro u s1 ⟨x,H1,I1,r1,q1⟩
 obtain⟨i,rfl,q⟩:=q1
 obtain⟨t,rfl⟩:=r1
 exact⟨some i,H1,I1,.int i t,q⟩

noncomputable def SlR (X:Cx) (r:V->Option Int->Option Int->Hp->VK->Prop):Prop :=
 ∀ (pins:List (Addr × Obj)) (s:Shared) (σ:St) (H:Hp) (x:V) (v vl vu:Value) (lo hi:Option Int) (sl:Addr) (Q:VK),Inv X pins σ H s->RelV x v->s.heap.IsSliceOf sl vl vu .none->IsPart vl lo->IsPart vu hi->r x lo hi H Q →
  ∃ T id,typeLookup (.type T) "__getitem__"=pure (some (.builtin id))/\s.TypeIs v T/\wpAny (model X.prog X.w) X.A (getItem v (.ref sl)) (EP X pins σ Q) X.xe s
theorem SlR.or {r r':V->Option Int->Option Int->Hp->VK->Prop}(h:SlR X r) (h':SlR X r'):SlR X (λ x lo hi H Q=>r x lo hi H Q\/r' x lo hi H Q):=by
 intro pins s σ H x v vl vu lo hi sl Q I rx hs pl pu q
 rcases q with q|q
 ·exact h pins s σ H x v vl vu lo hi sl Q I rx hs pl pu q
 ·exact h' pins s σ H x v vl vu lo hi sl Q I rx hs pl pu q
noncomputable def tSl (r:V->Option Int->Option Int->Hp->VK->Prop) (te:TE) (tl th:TO):TE:=λ σ H Q=>te σ H λ x H1=>tl σ H1 λ l H2=>th σ H2 λ u H3=>r x l u H3 Q
theorem Ul {r:V->Option Int->Option Int->Hp->VK->Prop}(hr:SlR X r) (he:PE X e te) (hl:PO X lo tl) (hu:PO X hi th):PE X (.Subscript e (.Slice lo hi none p2) pos) (tSl r te tl th):=by
 intro pins s σ H Q I h
 refine Subscript_ (thn (he pins s σ H _ I h) ?_)
 rintro v s1 ⟨x,H1,I1,r1,q1⟩
 refine wpAny_Slice (thn (hl pins s1 σ H1 _ I1 q1) λ vl s2 ⟨l,H2,I2,pl,q2⟩=>thn (hu pins s2 σ H2 _ I2 q2) ?_)
 rintro vu s3 ⟨u,H3,I3,pu,q3⟩
 rw [evalPart_none]
 refine wpAny_pure ?_
 have I4:Inv X pins σ H3 { s3 with heap:=s3.heap.push { cls:=.type "slice",data:=.fields #[vl,vu,.none] } }:=I3.kept (t':=s3.toks) λ b ob q=>Heap.get?_push_of_some _ q
 obtain⟨T,id,hT,ht,hg⟩:=hr pins { s3 with heap:=s3.heap.push { cls:=.type "slice",data:=.fields #[vl,vu,.none] } } σ H3 x v vl vu l u s3.heap.objs.size Q I4 r1 (Heap.IsSliceOf.new ..) pl pu q3
 show wpAny (model X.prog X.w) X.A (subscriptTail e (.Slice lo hi none p2) v (.ref s3.heap.objs.size)) (EP X pins σ Q) X.xe { s3 with heap:=s3.heap.push { cls:=.type "slice",data:=.fields #[vl,vu,.none] } }
 exact tail_any (ops:=[.ref s3.heap.objs.size,v]) ht hT hg (by with_unfolding_all rfl)

noncomputable def Adc (xs:List V) (lo hi:Option Int):List V:=(xs.drop (HT.sIx xs.length 0 lo)).take (HT.sIx xs.length xs.length hi-HT.sIx xs.length 0 lo)
theorem Kh (xs:List V) (lo hi:Option Int):(Adc xs lo hi).length<=xs.length:=by
 unfold Adc
 rw [List.length_take,List.length_drop]
 omega
noncomputable def Art (K:PySem.W.Frag):V->Option Int->Option Int->Hp->VK->Prop:=λ x lo hi H Q=>∃ a xs,x=.ref a/\SqT K H a xs ∧
 ¬ (HT.sIx xs.length 0 lo=0/\HT.sIx xs.length xs.length hi=xs.length)/\∀ p,H p=none->Q (.ref p) (upd H p (.tup (Adc xs lo hi)))
theorem Ajw:SlR X (Art X.K):=by
 intro pins s σ H x v vl vu lo hi sl Q I rx hs pl pu h
 obtain⟨a,xs,rfl,hx,hw,q⟩:=h
 cases rx
 obtain⟨its,r,ht,hz⟩:=I.tuple hx
 have hlen:its.toArray.size=xs.length:=by rw [List.size_toArray];exact r.length.symm
 refine⟨"tuple",_,PyProof.Rows.slot_tuple_getitem.lookup,ht.typeIs,?_⟩
 refine HT.getItem_tuple_cut ht hs pl pu (by rw [hlen];exact hw) ?_ (by rw [hlen];exact hz)
 rw [hlen]
 refine⟨.ref s.heap.objs.size,_,I.laid (t':=s.toks) (o:=.tup (Adc xs lo hi)) (λ b ob q=>Heap.get?_push_of_some _ q) (Nat.le_refl _) ?_,rfl,q _ (I.hok.fresh (Nat.le_refl _))⟩
 exact⟨Nat.le_trans (Kh xs lo hi) hz,_,(r.drop (HT.sIx xs.length 0 lo)).take (HT.sIx xs.length xs.length hi-HT.sIx xs.length 0 lo),IsTup.new _ _⟩

noncomputable def Aos (K:PySem.W.Frag):R2:=λ x y H Q=>∃ a b ns ms,x=.ref a/\y=.ref b/\SqT K H a (ns.map V.int)/\SqT K H b (ms.map V.int)/\Q (.bl (HT.lexLt ns ms)) H
theorem Aii (hu:X.A.units<cLine):OpR X (compareOp .Lt) (Aos X.K):=by
 intro pins s σ H x y v u Q I rx ry h
 obtain⟨a,b,ns,ms,rfl,rfl,ha,hb,q⟩:=h
 cases rx
 cases ry
 obtain⟨its,r1,p1,_⟩:=I.tuple ha
 obtain⟨its2,r2,p2,_⟩:=I.tuple hb
 have i1:IntsAre its.toArray.toList ns:=intsAre_of r1
 have i2:IntsAre its2.toArray.toList ms:=intsAre_of r2
 exact HT.lt_tupInts p1 p2 i1 i2 hu ⟨.bl (HT.lexLt ns ms),H,I,rfl,q⟩
end
end L2

namespace L2
open PySem PySem.Spec PyProof.Rows

noncomputable def ixN (n:Nat) (i:Int):Option Nat:=if 0<=i then (if i<n then some i.toNat else none) else if -(n:Int)<=i then some (i+n).toNat else none
noncomputable def atI {α:Type}(xs:List α) (i:Int):Option α:=(ixN xs.length i).bind λ j=>xs[j]?
theorem Ae1 {n:Nat}{i:Int}{j:Nat}(h:ixN n i=some j):seqIndex? i n=some j/\j<n/\-(n:Int)<=i/\i<n:=by
 unfold ixN at h
 by_cases h0:0<=i
 ·rw [if_pos h0] at h
  by_cases h1:i<n
  ·rw [if_pos h1] at h
   have e:i.toNat=j:=Option.some.inj h
   exact⟨by rw [seqIndex_of h0 h1,e],by omega,by omega,h1⟩
  ·rw [if_neg h1] at h;cases h
 ·rw [if_neg h0] at h
  by_cases h1:-(n:Int)<=i
  ·rw [if_pos h1] at h
   have e:(i+n).toNat=j:=Option.some.inj h
   exact⟨by rw [seqIndex_neg (by omega) h1,e],by omega,h1,by omega⟩
  ·rw [if_neg h1] at h;cases h
theorem R8 {α:Type}{xs:List α}{i:Int}{v:α}(h:atI xs i=some v):∃ j,seqIndex? i xs.length=some j/\xs[j]?=some v/\j<xs.length/\-(xs.length:Int)<=i/\i<xs.length:=by
 unfold atI at h
 cases e:ixN xs.length i with
 | none=>rw [e] at h;cases h
 | some j =>
  rw [e] at h
  obtain⟨h1,h2,h3,h4⟩:=Ae1 e
  exact⟨j,h1,h,h2,h3,h4⟩
theorem Fb {α:Type}{xs:List α}{j:Nat}{v:α}(h:xs[j]?=some v):atI xs (j:Int)=some v:=by
 have hj:j<xs.length:=(List.getElem?_eq_some_iff.mp h).1
 have e:ixN xs.length (j:Int)=some j:=by
  unfold ixN
  rw [if_pos (by omega),if_pos (by omega)];simp
 unfold atI;rw [e];exact h

noncomputable def Lj (b:Expr):Prop:=∀ o i,subscripted b false o i=operate [o,i] (getItem o i)
noncomputable def IxR (X:Cx) (r:R2):Prop :=
 ∀ (value slice:Expr) (pins:List (Addr × Obj)) (s:Shared) (σ:St) (H:Hp) (x y:V) (v u:Value) (Q:VK),Inv X pins σ H s->RelV x v->RelV y u->r x y H Q →
  subscripted slice false v u=operate [v,u] (getItem v u)->wpAny (model X.prog X.w) X.A (subscriptTail value slice v u) (EP X pins σ Q) X.xe s
noncomputable def MtR (X:Cx) (id:String) (r:V->List V->Hp->VK->Prop):Prop :=
 ∀ (pins:List (Addr × Obj)) (s:Shared) (σ:St) (H:Hp) (x:V) (xs:List V) (v:Value) (us:List Value) (Q:VK),Inv X pins σ H s->RelV x v->Vals xs us->r x xs H Q →
  wpAny (model X.prog X.w) X.A (call (.builtin id) (v :: us)) (EP X pins σ Q) X.xe s
section
variable {X:Cx}{a b:Expr}{ta tb:TE}{pos:Pos}
theorem IxR.or {r r':R2}(h:IxR X r) (h':IxR X r'):IxR X (λ x y H Q=>r x y H Q\/r' x y H Q):=by
 intro value slice pins s σ H x y v u Q I rx ry q hs
 rcases q with q|q
 ·exact h value slice pins s σ H x y v u Q I rx ry q hs
 ·exact h' value slice pins s σ H x y v u Q I rx ry q hs
theorem Aas {r:R2}(hr:IxR X r) (ha:PE X a ta) (hb:PE X b tb) (hs:Lj b):PE X (.Subscript a b pos) (tOp r ta tb):=by
 intro pins s σ H Q I h
 exact Subscript_ (Amc ha hb I h λ v u s2 x y H2 I2 rx ry q=>hr a b pins s2 σ H2 x y v u Q I2 rx ry q (hs _ _))

noncomputable def Ao6 (K:PySem.W.Frag):R2:=λ x y H Q=>∃ p xs i v,x=.ref p/\y=.int i/\SqL K H p xs/\atI xs i=some v/\Q v H
noncomputable def Anm (K:PySem.W.Frag):R2:=λ x y H Q=>∃ p xs i v,x=.ref p/\y=.int i/\SqT K H p xs/\atI xs i=some v/\Q v H
noncomputable def Anl:R2:=λ x y H Q=>∃ z i c,x=.str z/\y=.int i/\z.length<=sizeLine/\atI z.cps.toList i=some c/\Q (.str ⟨#[c]⟩) H
theorem Af8:IxR X (Ao6 X.K):=by
 intro value slice pins s σ H x y v u Q I rx ry h hs
 obtain⟨p,xs,i,z,rfl,rfl,hq,he,q⟩:=h
 cases rx
 obtain⟨t,rfl⟩:=ry
 obtain⟨its,r,pl,hz⟩:=I.list hq
 obtain⟨j,h1,h2,h3,h4,h5⟩:=R8 he
 obtain⟨w,ew,rw'⟩:=r.get h2
 have hl:=r.length
 have hn:=Kr
 have fin:EP X pins σ Q w s:=⟨z,H,I,rw',q⟩
 by_cases h0:0<=i
 ·have hj:i.toNat=j:=by
   rw [seqIndex_of h0 h5] at h1
   exact Option.some.inj h1
  exact item_listR pl.isList h0 (by omega) (by rw [hj];simpa using ew) fin hs
 ·have hj:(i+(its.toArray.size:Int)).toNat=j:=by
   rw [seqIndex_neg (by omega) h4] at h1
   rw [List.size_toArray,<-hl]
   exact Option.some.inj h1
  exact subscriptTail_builtinR (x:=w) pl.isList.typeIs slot_list_getitem.lookup
   (wpAny_getItem_list_neg (Q:=λ r s'=>r=w/\EP X pins σ Q r s') pl.isList (by omega) (by rw [List.size_toArray]<;>omega) (by omega) (by rw [hj];simpa using ew) ⟨rfl,fin⟩) hs
theorem Ud:IxR X (Anm X.K):=by
 intro value slice pins s σ H x y v u Q I rx ry h hs
 obtain⟨p,xs,i,z,rfl,rfl,hq,he,q⟩:=h
 cases rx
 obtain⟨t,rfl⟩:=ry
 obtain⟨its,r,pl,hz⟩:=I.tuple hq
 obtain⟨j,h1,h2,h3,h4,h5⟩:=R8 he
 obtain⟨w,ew,rw'⟩:=r.get h2
 have hl:=r.length
 have hn:=Kr
 have fin:EP X pins σ Q w s:=⟨z,H,I,rw',q⟩
 exact subscriptTail_builtinR (x:=w) pl.typeIs slot_tuple_getitem.lookup
  (getItem_tuple (j:=j) (Q:=λ r s'=>r=w/\EP X pins σ Q r s') pl (by omega) (by omega) (by rw [List.size_toArray,<-hl];exact h1) (by simpa using ew) ⟨rfl,fin⟩) hs
theorem Aix:IxR X Anl:=by
 intro value slice pins s σ H x y v u Q I rx ry h hs
 obtain⟨z,i,c,rfl,rfl,hz,he,q⟩:=h
 obtain⟨t,rfl⟩:=rx
 obtain⟨t',rfl⟩:=ry
 obtain⟨j,h1,h2,h3,h4,h5⟩:=R8 he
 have hl:z.cps.toList.length=z.length:=by simp [Str.length]
 rw [hl] at h1 h4 h5
 have hn:=Kr
 exact tail_any (typeIs_str s z t) slot_str_getitem.lookup (getItem_str (c:=c) (by
  have e1:decide (i < -(2 ^ 63:Int))=false:=decide_eq_false (by omega)
  have e2:decide (i ≥ 2 ^ 63)=false:=decide_eq_false (by omega)
  rw [e1,e2,Bool.or_false]) (by rw [h1];simpa using h2) ⟨.str ⟨#[c]⟩,H,I.tok _,⟨_,rfl⟩,q⟩) hs
noncomputable def rIx (K:PySem.W.Frag):R2:=λ x y H Q=>Ao6 K x y H Q\/Anm K x y H Q\/Anl x y H Q
theorem Ahl:IxR X (rIx X.K):=Af8.or (Ud.or Aix)

theorem Ri (lo hi:Option Int) (n:Nat):(sliceBounds lo hi none n).1=((HT.sIx n 0 lo:Nat):Int)/\(sliceBounds lo hi none n).2.1=((HT.sIx n n hi:Nat):Int)/\(sliceBounds lo hi none n).2.2=1:=by
 refine⟨?_,?_,rfl⟩
 ·cases lo with
  | none=>simp [sliceBounds,HT.sIx]
  | some i =>
   simp only [sliceBounds,HT.sIx,Option.getD_none,show (1:Int) > 0 by decide,if_true]
   by_cases h:i<0
   ·simp only [h,if_true]<;>omega
   ·simp only [h,if_false]<;>omega
 ·cases hi with
  | none=>simp [sliceBounds,HT.sIx]
  | some i =>
   simp only [sliceBounds,HT.sIx,Option.getD_none,show (1:Int) > 0 by decide,if_true]
   by_cases h:i<0
   ·simp only [h,if_true]<;>omega
   ·simp only [h,if_false]<;>omega
theorem N8 (its:List Value) (lo hi:Option Int):slicePick its.toArray lo hi none=((its.drop (HT.sIx its.length 0 lo)).take (HT.sIx its.length its.length hi-HT.sIx its.length 0 lo)).toArray:=by
 obtain⟨h1,h2,h3⟩:=Ri lo hi its.toArray.size
 unfold slicePick
 rw [h1,h2,h3]
 simp only [sliceRange_one,pick_run,List.size_toArray]<;>rfl
noncomputable def Arv (K:PySem.W.Frag):V->Option Int->Option Int->Hp->VK->Prop:=λ x lo hi H Q=>∃ a xs,x=.ref a/\SqL K H a xs/\∀ p,H p=none->Q (.ref p) (upd H p (.lst (Adc xs lo hi)))
theorem Ad7:SlR X (Arv X.K):=by
 intro pins s σ H x v vl vu lo hi sl Q I rx hs pl pu h
 obtain⟨a,xs,rfl,hx,q⟩:=h
 cases rx
 obtain⟨its,r,ht,hz⟩:=I.list hx
 have hlen:=r.length
 refine⟨"list",_,slot_list_getitem.lookup,ht.isList.typeIs,?_⟩
 refine wpAny_getItem_list_slice ht.isList hs pl pu .none (by simp) ?_ (by rw [List.size_toArray]<;>omega)
 rw [N8,<-hlen]
 refine⟨.ref s.heap.objs.size,_,I.laid (t':=s.toks) (o:=.lst (Adc xs lo hi)) (λ b ob q=>Heap.get?_push_of_some _ q) (Nat.le_refl _) ?_,rfl,q _ (I.hok.fresh (Nat.le_refl _))⟩
 exact⟨Nat.le_trans (Kh xs lo hi) hz,_,0,(r.drop (HT.sIx xs.length 0 lo)).take (HT.sIx xs.length xs.length hi-HT.sIx xs.length 0 lo),Heap.get?_push_size _ rfl⟩

theorem Pb:Fq X (.builtin "len") (λ xs H Q=>∃ p ys,xs=[.ref p]/\(SqL X.K H p ys\/SqT X.K H p ys)/\Q (.int ys.length) H):=by
 intro pins s σ H xs us Q I r h
 obtain⟨p,ys,rfl,hq,q⟩:=h
 obtain⟨u,rfl,rx⟩:=vals1 r
 cases rx
 have hn:=Kr
 rcases hq with hq|hq
 ·obtain⟨its,r',pl,hz⟩:=I.list hq
  have hlen:=r'.length
  exact Calls.call_len_list pl.isList (by simp only [List.size_toArray]<;>omega) ⟨.int ys.length,H,I.tok _,⟨s.toks+1,by rw [List.size_toArray,hlen]⟩,q⟩
 ·obtain⟨its,r',pl,hz⟩:=I.tuple hq
  have hlen:=r'.length
  exact len_tuple pl (by simp only [List.size_toArray]<;>omega) ⟨.int ys.length,H,I.tok _,⟨s.toks+1,by rw [List.size_toArray,hlen]⟩,q⟩
theorem Qc:Fq X (.builtin "len") (λ xs H Q=>∃ z,xs=[.str z]/\z.length<=sizeLine/\Q (.int z.length) H):=by
 intro pins s σ H xs us Q I r h
 obtain⟨z,rfl,hz,q⟩:=h
 obtain⟨u,rfl,t,rfl⟩:=vals1 r
 have hn:=Kr
 exact len_str (by omega) ⟨.int z.length,H,I.tok _,⟨_,rfl⟩,q⟩
theorem Fq.or {f:Value}{r r':List V->Hp->VK->Prop}(h:Fq X f r) (h':Fq X f r'):Fq X f (λ xs H Q=>r xs H Q\/r' xs H Q):=by
 intro pins s σ H xs us Q I rs q
 rcases q with q|q
 ·exact h pins s σ H xs us Q I rs q
 ·exact h' pins s σ H xs us Q I rs q

noncomputable def tyV (K:PySem.W.Frag) (T:String) (x:V) (H:Hp):Prop:=match x with
 | .str _=>T="str"
 | .int _=>T="int"
 | .ref p=>(T="list"/\∃ xs,SqL K H p xs)\/(T="tuple"/\∃ o,K.lookup p=some o/\o.cls=.type "tuple"/\o.dict=none) ∨
   (T="dict"/\((∃ kvs,H p=some (.dK kvs))\/∃ kvs,H p=some (.dT kvs)))\/(T="set"/\∃ S n,H p=some (.set S n))
 | _=>False
theorem Ag4 {pins:List (Addr × Obj)}{σ:St}{H:Hp}{s:Shared}{T:String}{x:V}{v:Value}(I:Inv X pins σ H s) (r:RelV x v) (ty:tyV X.K T x H) :
  s.TypeIs v T/\∀ a,v=.ref a->∃ ob,s.heap.get? a=some ob/\ob.dict=none:=by
 cases x with
 | str z =>
  obtain⟨t,rfl⟩:=r
  cases (show T="str" from ty)
  exact⟨typeIs_str s z t,λ _ e=>nomatch e⟩
 | int i =>
  obtain⟨t,rfl⟩:=r
  cases (show T="int" from ty)
  exact⟨typeIs_int s i t,λ _ e=>nomatch e⟩
 | ref p =>
  cases r
  rcases ty with ⟨rfl,xs,hq⟩|⟨rfl,o,hk,hc,hd⟩|⟨rfl,hk⟩|⟨rfl,S,n,hk⟩
  ·obtain⟨its,_,pl,_⟩:=I.list hq
   refine⟨pl.isList.typeIs,λ a e=>?_⟩
   cases e
   obtain⟨o,n,e,c,hd,_⟩:=pl
   exact⟨o,e,hd⟩
  ·refine⟨⟨o,I.kIn p o hk,hc⟩,λ a e=>?_⟩
   cases e
   exact⟨o,I.kIn _ o hk,hd⟩
  ·have z:∃ o,s.heap.get? p=some o/\o.ExactDict:=by
    rcases hk with ⟨kvs,hk⟩|⟨kvs,hk⟩
    ·obtain⟨_,_,_,_,o,_,_,e,ex,_⟩:=I.hok p _ hk
     exact⟨o,e,ex⟩
    ·obtain⟨_,_,_,_,o,_,_,e,ex,_⟩:=I.hok p _ hk
     exact⟨o,e,ex⟩
   obtain⟨o,e,ex⟩:=z
   refine⟨⟨o,e,ex.1⟩,λ a e2=>?_⟩
   cases e2
   exact⟨o,e,ex.2.1⟩
  ·obtain⟨o,_,_,_,e,ex,_⟩:=I.hok p _ hk
   refine⟨⟨o,e,ex.1⟩,λ a e2=>?_⟩
   cases e2
   exact⟨o,e,ex.2.1⟩
 | _=>exact False.elim ty
noncomputable def tBM (K:PySem.W.Frag) (T:String) (r:V->List V->Hp->VK->Prop) (to:TE) (t:TA):TE:=λ σ H Q=>to σ H λ x H1=>tyV K T x H1/\t σ H1 λ xs H2=>r x xs H2 Q
variable {o e:Expr}{es:List Expr}{to:TE}{t:TA}{name:Str}{apos cpos:Pos}{T id:String}{r:V->List V->Hp->VK->Prop}
theorem Aa1 (pa:PlainAttrs T) (slot:Slot T name id) (hty:typeOf (.builtin id)=pure (.type "method_descriptor")) (hm:MtR X id r) (ho:PE X o to) (ha:PA X (e :: es) t)
  (hbase:attributeBase o name X.env (eval o X.env)=eval o X.env:=by rfl)
  (hfew:((backTo cpos (starEach (e :: es) X.env)).all (λ x=>!x.1) && (backToKw cpos (keywordEach [] X.env)).all (λ x=>x.1.isSome)
   && decide ((e :: es).length+([]:List Keyword).length+(if ([]:List Keyword).isEmpty then 0 else 1)<30))=true:=by rfl)
  (hline:(apos.endLine == cpos.line)=true:=by rfl) (hs:starEach (e :: es) X.env=(false,eval e X.env) :: starEach es X.env:=by rfl) (hplain:(backTo cpos (starEach es X.env)).any (·.1)=false:=by rfl) :
  PE X (.Call (.Attribute o name apos) (e :: es) [] cpos) (tBM X.K T r to t):=by
 intro pins s σ H Q I h
 refine wpAny_Call_method_late hbase hfew hline rfl (thn (ho pins s σ H _ I h) ?_)
 rintro v s1 ⟨x,H1,I1,r1,ty,q1⟩
 obtain⟨h1,h2⟩:=Ag4 I1 r1 ty
 refine⟨T,id,pa,slot,hty,h1,h2,?_⟩
 have hA:=ha cpos pins s1 σ H1 _ I1 q1
 rw [hs] at hA ⊢
 refine Calls.callWith_builtin (by show (false || (backTo cpos (starEach es X.env)).any (·.1))=false;rw [hplain]<;>rfl) (Calls.evalArgs_plain ?_)
 exact thn hA λ us s2 ⟨vs,H2,I2,r2,q2⟩=>hm pins s2 σ H2 x vs v us Q I2 r1 r2 q2
/- xs.append(e),list.index on a module's tuple .. are MtR facts of 06m -/
end
end L2

namespace L2
open PySem PySem.Spec PyProof.Rows

noncomputable def MtM (X:Cx) (id:String) (r:V->List V->Hp->VK->Prop):Prop :=
 ∀ (pins:List (Addr × Obj)) (s:Shared) (σ:St) (H:Hp) (x:V) (xs:List V) (v:Value) (us:List Value) (Q:VK),Inv X pins σ H s->RelV x v->Vals xs us->r x xs H Q →
  wpAny (model X.prog X.w) X.A (call (.builtin id) (v :: us)) (EP X pins σ Q) X.xe s

theorem Vals.one:∀ {x:V}{us:List Value},Vals [x] us->∃ u,us=[u]/\RelV x u
 | _,_,.cons r .nil=>⟨_,rfl,r⟩

section
variable {X:Cx}{pins:List (Addr × Obj)}{σ:St}{H:Hp}{s:Shared}{l b:Addr}{xs ys zs:List V}

theorem Inv.lset {its its':List Value}{n:Nat}{f:Array Value->Array Value}{t':Nat}(I:Inv X pins σ H s) (hH:H l=some (.lst xs))
  (e:s.heap.get? l=some { cls:=.type "list",data:=.seq its.toArray n }) (hf:f its.toArray=its'.toArray) (hv:Vals ys its') (hz:ys.length<=sizeLine) :
  Inv X pins σ (upd H l (.lst ys)) { s with heap:=s.heap.update l (Obj.mapSeq f),toks:=t' }:=by
 have q:=PySem.IsL.update e f
 rw [hf] at q
 refine I.write (x:=l) (e:=l) (by rw [hH];exact trivial) (.inl rfl) (λ b' u hb hu=>(Heap.get?_update_other s.heap (Obj.mapSeq f) (Ne.symm hb)).trans hu) ⟨_,q⟩ ?_
 exact⟨hz,its',_,hv,q⟩
theorem Inv.lnew {its:List Value}{t':Nat}(I:Inv X pins σ H s) (hv:Vals ys its) (hz:ys.length<=sizeLine) :
  Inv X pins σ (upd H s.heap.objs.size (.lst ys)) { s with heap:=s.heap.push { cls:=.type "list",data:=.seq its.toArray },toks:=t' } :=
 I.laid (λ _ _ q=>Heap.get?_push_of_some _ q) (Nat.le_refl _) ⟨hz,its,0,hv,Heap.get?_push_size _ rfl⟩
theorem Inv.fresh (I:Inv X pins σ H s):H s.heap.objs.size=none:=I.hok.fresh (Nat.le_refl _)
theorem Inv.lstM (I:Inv X pins σ H s) (hH:H l=some (.lst xs)):xs.length<=sizeLine/\∃ (its:List Value) (n:Nat),Vals xs its/\xs.length=its.length/\s.heap.get? l=some { cls:=.type "list",data:=.seq its.toArray n }:=by
 obtain⟨z,its,n,r,e⟩:=I.hok l _ hH
 exact⟨z,its,n,r,r.length,e⟩

theorem Abl {n:Nat}(h:n<=sizeLine):Builtin.List.listTooLong n=false:=by
 unfold Builtin.List.listTooLong
 exact decide_eq_false (by omega)
end

section
variable {X:Cx}

noncomputable def Zc:V->List V->Hp->VK->Prop:=λ x vs H Q=>∃ l xs y,x=.ref l/\vs=[y]/\H l=some (.lst xs)/\xs.length<sizeLine/\Q .non (upd H l (.lst (xs++[y])))
theorem Qq:MtM X "list.append" Zc:=by
 intro pins s σ H x vs v us Q I rx rv h
 obtain⟨l,xs,y,rfl,rfl,hH,hz,q⟩:=h
 cases rx
 obtain⟨u,rfl,ru⟩:=rv.one
 obtain⟨z,its,n,r,hl,e⟩:=I.lstM hH
 refine call_meets F.slot_list_append ⟨_,e,rfl⟩ F.entry_list_append (F.args_list_append_2 _ _) (PySem.list_append l its.toArray n u (by rw [List.size_toArray];omega)) ⟨e,?_⟩
 refine⟨.non,_,I.lset (its':=its++[u]) hH e (by simp) (r.append (.cons ru .nil)) ?_,rfl,q⟩
 rw [List.length_append,List.length_singleton]
 omega

noncomputable def Ye:V->List V->Hp->VK->Prop:=λ x vs H Q=>∃ l b xs zs,x=.ref l/\vs=[.ref b]/\H l=some (.lst xs)/\H b=some (.lst zs)/\xs.length+zs.length<=sizeLine/\Q .non (upd H l (.lst (xs++zs)))
theorem Yv:MtM X "list.extend" Ye:=by
 intro pins s σ H x vs v us Q I rx rv h
 obtain⟨l,b,xs,zs,rfl,rfl,hH,hB,hz,q⟩:=h
 cases rx
 obtain⟨u,rfl,ru⟩:=rv.one
 cases ru
 obtain⟨z,its,n,r,hl,e⟩:=I.lstM hH
 obtain⟨z2,its2,n2,r2,hl2,e2⟩:=I.lstM hB
 have hsz:its.toArray.size+its2.toArray.size<=sizeLine:=by rw [List.size_toArray,List.size_toArray];omega
 have hlong:¬ (!its.toArray.isEmpty && Builtin.List.listTooLong (its.toArray.size+its2.toArray.size))=true:=by
  rw [Abl hsz,Bool.and_false]
  exact Bool.false_ne_true
 refine call_meets F.slot_list_extend ⟨_,e,rfl⟩ F.entry_list_extend (F.args_list_extend_2 _ _)
  (AutoSeq1.list_extend_list_list_0 l its.toArray n b its2.toArray n2 hlong (by rw [List.size_toArray];omega) (by omega)) ⟨e,e2,?_⟩
 refine⟨.non,_,I.lset (its':=its++its2) hH e (by simp) (r.append r2) ?_,rfl,q⟩
 rw [List.length_append]
 omega

noncomputable def Ann:R2:=λ x y H Q=>∃ l b xs zs,x=.ref l/\y=.ref b/\H l=some (.lst xs)/\H b=some (.lst zs)/\xs.length+zs.length<=sizeLine/\∀ p,H p=none->Q (.ref p) (upd H p (.lst (xs++zs)))
theorem Ajo:OpR X (binaryOp .Add) Ann:=by
 intro pins s σ H x y v u Q I rx ry h
 obtain⟨l,b,xs,zs,rfl,rfl,hH,hB,hz,q⟩:=h
 cases rx
 cases ry
 obtain⟨z,its,n,r,hl,e⟩:=I.lstM hH
 obtain⟨z2,its2,n2,r2,hl2,e2⟩:=I.lstM hB
 refine PySem.P.add_list e e2 ?_ (by rw [List.size_toArray,List.size_toArray];omega)
 have ea:its.toArray++its2.toArray=(its++its2).toArray:=by simp
 rw [ea]
 exact⟨.ref _,_,I.lnew (t':=s.toks) (r.append r2) (by rw [List.length_append];omega),rfl,q _ I.fresh⟩

end

section
variable {prog:Program}{w:World}{A:Around}{E:Value->Shared->Prop}{s:Shared}
end

section
variable {X:Cx}
end
end L2
namespace Att
open PySem PySem.W PySem.Calls PyProof.Rows

theorem Lq {P:Params}{h:Heap}:∀ (ns:List Int) (vs:List Value),WellAll P h vs (ns.map WData.int)->IntsAre vs ns:=by
 intro ns
 induction ns with
 | nil =>
  intro vs w
  rw [List.map_nil] at w
  cases w
  exact .nil
 | cons n ns ih =>
  intro vs w
  rw [List.map_cons] at w
  cases w with
  | cons a b =>
   cases a
   exact .cons _ _ (ih _ b)

theorem Yj {l:OpenLaw}{n:Nat}(hn:l.most=some n) {P:Params}{h:Heap}{args:List WData}{vals:List Value}
  (hpre:l.row.toRowW.claim.pre args=true) (hwl:WellAll P h vals args) :
  ∃ a vs ns,vals=[Value.ref a]/\args=[WData.list (ns.map WData.int)]/\h.get? a=some { cls:=.type "list",data:=.seq vs.toArray }/\IntsAre vs ns/\ns.length<=n:=by
 have hsh:WShape.hasAll [] args [.list .int]=true:=(pre_splitW hpre).1
 have hc:l.pre.holds [] { args:=args }=true:=(pre_splitW hpre).2
 obtain⟨d,r,rfl,h1,h2⟩:=hasAllW_cons hsh
 obtain rfl:=hasAllW_nil h2
 obtain⟨xs,rfl,h3⟩:=hasW_list h1
 obtain⟨ns,rfl⟩:=items_int h3
 have hlen:ns.length<=n:=by
  unfold OpenLaw.pre at hc
  have h4:(WTm.not (.lt (.lit (.int (n:Int))) (.len (.arg 0)))).holds [] { args:=[.list (ns.map .int)] }=true:=by
   have h4:=(holds_andW hc).1
   rw [hn] at h4
   exact h4
  have h5:=condW_of h4 (w_not (w_lt w_lit (w_len_list (w_arg rfl))))
  rw [List.length_map] at h5
  refine Nat.le_of_not_lt λ q=>?_
  have q':(n:Int)<((ns.length:Nat):Int):=by omega
  first
   | (rw [decide_eq_true q'] at h5;exact absurd h5 (by decide))
   | (simp at h5;omega)
 cases hwl with
 | cons w1 w2 =>
  cases w2
  cases w1 with
  | list ho hall=>exact⟨_,_,ns,rfl,rfl,ho,Lq ns _ hall,hlen⟩

theorem Xq (l:OpenLaw) (args:List WData):l.row.toRowW.claim.post args (.bool true) args=true :=
 postW_of (r:=l.row.toRowW) (X:=(true == true))
  (show WShape.has [] (.bool true) .bool=true by first|rfl|decide|simp [WShape.has,WShape.arms,WShape.armsAll])
  (show (WTm.eq .res (.lit (.bool true))).value [] { args:=args,res:=some (.bool true),after:=args }=some (.bool (true == true)) from w_eq_bool (w_res rfl) w_lit) rfl

theorem attach_call {l:OpenLaw}{n:Nat}{q:Program}{loose:List Str}{XP:(Str->Option Value)->Heap->Prop}{YP:World->Heap->Prop}{d:DefRec}
  (hn:l.most=some n) (hdf:d.params.defaults=[])
  (call:∀ (w:World) (s₀ s₁:Shared) (mg mb:Str->Option Value) (fa:Addr) (o:Obj) (pm cd doc:Value) (a:Addr) (vs:List Value) (ns:List Int),
   Ground q loose [] XP w s₀ mg mb s₁.heap->YP w s₁.heap →
   s₁.heap.get? fa=some o->o.data=.func (docDef d.name d.params d.body d.scope pm cd doc)->s₁.heap.CodeRec cd d.name->mg d.name=some (.ref fa) →
   s₁.heap.get? a=some { cls:=.type "list",data:=.seq vs.toArray }->IntsAre vs ns->ns.length<=n->s₁.gens=#[] →
   codeAny (model l.prog w) callerA (.call (.ref fa) ⟨[.ref a],[]⟩) (λ r s'=>r=.ok (.ret (.bool true))/\OldK s₁.heap s'.heap/\s'.os=s₁.os/\AllBare s'.gens) s₁) :
  WalkO q loose XP YP l.row.toRowW d [] (λ f vs=>PySem.call f vs):=by
 intro w s₀ s₁ mg mb G Y fa o pm cd doc dV kV ho hd hcd hD hmg hg args vals as hpre hlay hrd hwl hlo
 obtain rfl:dV=.none:=Dflts.none hD hdf
 obtain rfl:kV=.none:=Dflts.noKw hD
 obtain⟨a,vs,ns,rfl,rfl,hobj,hints,hlen⟩:=Yj hn hpre hwl
 refine enter_call (codeAny_mono (call w s₀ s₁ mg mb fa o pm cd doc a vs ns G Y ho (fd_plain hd) hcd hmg hobj hints hlen hg) λ r s' hq=>?_)
 obtain⟨rfl,h2,h3,h4⟩:=hq
 exact⟨.inl ⟨.bool true,.bool true,[],rfl,λ _=>rfl,.bool true,Xq l _,λ _=>⟨List.Pairwise.nil,λ _ hm=>(nomatch hm)⟩⟩,h2,h3,h4⟩

section
variable {prog:Program}{w:World}{A:Around}{E:Value->Shared->Prop}{s:Shared}{K:Frag}

end
end Att

namespace L2
open PySem PySem.Spec PyProof.Rows

theorem Ik:∀ {vs:List Value}{ns:List Int},IntsAre vs ns->Vals (ns.map V.int) vs
 | _,_,.nil=>.nil
 | _,_,.cons n t h=>.cons ⟨t,rfl⟩ (Ik h)

noncomputable def Only (H:Hp):Prop:=∀ b,H b=none\/∃ o xs,H b=some (.frz o (.lst xs))

theorem Ack {P:Program}{w:World}{K:PySem.W.Frag}{mg mb:Str->Option Value}{CX:CXT}{k:Nat}{fa a:Addr}{fd:FuncData}{x:Str}{sp:Sp}{s₁:Shared}{vs:List Value}{ns:List Int}
  (KX:K.In s₁.heap) (hns:s₁.heap.Ns mainGlobals mg) (hb:s₁.heap.Ns builtinsNs mb) (hbb:∀ x:Str,x≠"__name__"->mb x=bootBuiltins x) (hlim:s₁.heap.NoLimit) (hg:s₁.gens=#[])
  (ha:s₁.heap.get? a=some { cls:=.type "list",data:=.seq vs.toArray }) (hi:IntsAre vs ns) (hl:ns.length<=sizeLine) (hr:Room k callerA)
  (F:∀ base:Heap,K.In base->base.Ns mainGlobals mg->FnOk P w K mg base CX k fa fd [x] sp) (hbind:∀ (s:Shared) (u:Value),BindsTo s fd ⟨[u],[]⟩ [(x,u)])
  (hsp:∀ H:Hp,Only H->SqL K H a (ns.map V.int)->sp [.ref a] H (λ v _=>v=.bl true) λ _ _ _=>False)
  (hCX:∀ H e s',CX [] H s₁ (λ _ _ _=>False) e s'->False) :
  codeAny (model P w) callerA (.call (.ref fa) ⟨[.ref a],[]⟩) (λ r s'=>r=.ok (.ret (.bool true))/\OldK s₁.heap s'.heap/\s'.os=s₁.os/\AllBare s'.gens) s₁:=by
 have rv:=Ik hi
 have lenV:=hi.length
 -- from an abstract heap in which nothing but the script may be tracked
 have core:∀ H:Hp,Only H->SqL K H a (ns.map V.int)->HOk P w H s₁.heap->(∀ b,H b≠none->b=a)->(H a≠none->K.lookup a=none) →
   codeAny (model P w) callerA (.call (.ref fa) ⟨[.ref a],[]⟩) (λ r s'=>r=.ok (.ret (.bool true))/\OldK s₁.heap s'.heap/\s'.os=s₁.os/\AllBare s'.gens) s₁:=by
  intro H hO hS hok hA hK
  have base_of:∀ {b:Addr} {o:Obj},s₁.heap.get? b=some o->H b=none->(Abt s₁.heap H).get? b=some o:=λ e n=>Abq e n
  have noA:∀ {b:Addr} {o:Obj} {es:Array DictEntry} {ep:Nat},s₁.heap.get? b=some o->o.data=.dict es ep->H b=none:=λ {b o es ep} e d=>by
   cases q:H b with
   | none=>rfl
   | some u =>
    have e':b=a:=hA b (by rw [q];simp)
    subst e'
    rw [ha] at e;cases e
    have d':Data.seq vs.toArray _=Data.dict es ep:=d
    cases d'
  have nsK:∀ {b:Addr} {m:Str->Option Value},s₁.heap.Ns b m->(Abt s₁.heap H).Ns b m:=λ {b m} ⟨o,es,ep,e,d,r⟩=>⟨o,es,ep,base_of e (noA e d),d,r⟩
  have hKb:K.In (Abt s₁.heap H):=λ b o e=>base_of (KX b o e) (by
   cases q:H b with
   | none=>rfl
   | some u =>
    have e':b=a:=hA b (by rw [q];simp)
    subst e'
    rw [hK (by rw [q];simp)] at e;cases e)
  have hM:Mod K mg (Abt s₁.heap H):=⟨hKb,nsK hns,⟨mb,nsK hb,hbb⟩,let ⟨mc,h1,h2⟩:=hlim;⟨mc,nsK h1,h2⟩⟩
  have e0:Env0 P w K mg (Abt s₁.heap H) callerA [] s₁ H:=⟨rfl,hM,λ b o e=>Af9 e,Nat.le_of_eq (Zg _ _),trivial,λ b hb=>absurd (show b∈([]:List Addr) from hb) (by simp),hok,.of_eq hg⟩
  refine codeAny_mono ((F _ hKb (nsK hns)).run callerA [] s₁ H ⟨[.ref a],[]⟩ [.ref a] [.ref a] _ _ hr e0 (hbind s₁ (.ref a)) (.cons rfl .nil) (hsp H hO hS)) λ r s' h=>?_
  cases r with
  | error e=>exact (hCX H e s' h).elim
  | ok fl =>
   cases fl with
   | next=>exact False.elim h
   | brk=>exact False.elim h
   | cont=>exact False.elim h
   | ret u =>
    obtain⟨v,H',os,bare,un,hok',r',q⟩:=h
    have q':v=.bl true:=q
    subst q'
    obtain rfl:u=Value.bool true:=r'
    refine⟨rfl,OldK.of_keep λ b o e=>?_,os,bare⟩
    cases q:H b with
    | none=>exact un.keep b o e q (by intro z;exact absurd (show b∈([]:List Addr) from z) (by simp)) (by simp)
    | some u =>
     rcases hO b with z|⟨ob,xs,z⟩
     ·rw [q] at z;cases z
     ·have z2:=un.frzs b ob _ z
      obtain⟨e1,_⟩:=hok b _ z
      obtain⟨e2,_⟩:=hok' b _ z2
      rw [e] at e1;cases e1
      exact e2
 cases hk:K.lookup a with
 | some o =>
  -- the script is one of the module's own objects
  have e:=KX a o hk
  rw [ha] at e
  cases e
  refine core (λ _=>none) (λ _=>.inl rfl) (.inr ⟨_,vs.toArray,_,hk,rfl,rfl,rfl,by rw [List.size_toArray,lenV];exact hl,by simpa using rv⟩) (λ b u z=>by have z':(none:Option HO)=some u:=z;cases z') (λ b z=>absurd rfl z) λ z=>absurd rfl z
 | none =>
  refine core (λ b=>if b=a then some (.frz { cls:=.type "list",data:=.seq vs.toArray } (.lst (ns.map V.int))) else none) (λ b=>?_) (.inl (.inr ⟨{ cls:=.type "list",data:=.seq vs.toArray },if_pos rfl⟩)) (λ b u z=>?_) (λ b z=>?_) λ _=>hk
  ·by_cases hb:b=a
   ·exact .inr ⟨_,_,if_pos hb⟩
   ·exact .inl (if_neg hb)
  ·by_cases hb:b=a
   ·have z':=(if_pos hb).symm.trans z
    cases z'
    subst hb
    exact⟨ha,by rw [List.length_map];exact hl,vs,_,rv,ha⟩
   ·have z':=(if_neg hb).symm.trans z
    cases z'
  ·by_cases hb:b=a
   ·exact hb
   ·exact absurd (if_neg hb) z
end L2

namespace L2
open PySem PySem.Spec PyProof.Rows

theorem Afk {l:PySem.W.OpenLaw}{n k:Nat}{q:Program}{loose:List Str}{XP:(Str->Option Value)->Heap->Prop}{YP:World->Heap->Prop}{d:DefRec}{K:Params->PySem.W.Frag}{CX:World->CXT}{sp:World->Sp}{x:Str}
  (hn:l.most=some n) (hn2:n<=sizeLine) (hdf:d.params.defaults=[]) (hr:Room k callerA)
  (hY:∀ (w:World) (h:Heap),YP w h->(K w.params).In h)
  (F:∀ (w:World) (mg:Str->Option Value) (fa:Addr) (h:Heap),(K w.params).In h->h.Ns mainGlobals mg->mg d.name=some (.ref fa) →
   ∃ fd:FuncData,(∀ (s:Shared) (u:Value),BindsTo s fd ⟨[u],[]⟩ [(x,u)]) ∧
    ∀ base:Heap,(K w.params).In base->base.Ns mainGlobals mg->FnOk l.prog w (K w.params) mg base (CX w) k fa fd [x] (sp w))
  (hsp:∀ (w:World) (H:Hp) (a:Addr) (ns:List Int),ns.length<=n->Only H->SqL (K w.params) H a (ns.map V.int)->sp w [.ref a] H (λ v _=>v=.bl true) λ _ _ _=>False)
  (hCX:∀ (w:World) (H:Hp) (s:Shared) (e:Value) (s':Shared),CX w [] H s (λ _ _ _=>False) e s'->False) :
  PySem.W.WalkO q loose XP YP l.row.toRowW d [] (λ f vs=>PySem.call f vs):=by
 refine Att.attach_call hn hdf λ w s₀ s₁ mg mb fa o pm cd doc a vs ns G Y ho hd hcd hmg hobj hints hlen hg=>?_
 have KX:=hY w _ Y
 obtain⟨fd,hb,hF⟩:=F w mg fa _ KX G.T.g hmg
 exact Ack KX G.T.g G.T.b G.T.builtins G.T.nolimit hg hobj hints (Nat.le_trans hlen hn2) hr hF hb (λ H hO hS=>hsp w H a ns hlen hO hS) λ H e s'=>hCX w H s₁ e s'
theorem walk_ofK {l:PySem.W.OpenLaw}{n k:Nat}{q:Program}{loose:List Str}{XP:(Str->Option Value)->Heap->Prop}{YP:World->Heap->Prop}{d:DefRec}{K:Params->PySem.W.Frag}{CX:CXT}{sp:PySem.W.Frag->Sp}{x:Str}
  (hn:l.most=some n) (hn2:n<=sizeLine) (hdf:d.params.defaults=[]) (hr:Room k callerA)
  (hY:∀ (w:World) (h:Heap),YP w h->(K w.params).In h)
  (F:∀ (w:World) (mg:Str->Option Value) (fa:Addr) (h:Heap),(K w.params).In h->h.Ns mainGlobals mg->mg d.name=some (.ref fa) →
   ∃ fd:FuncData,(∀ (s:Shared) (u:Value),BindsTo s fd ⟨[u],[]⟩ [(x,u)]) ∧
    ∀ base:Heap,(K w.params).In base->base.Ns mainGlobals mg->FnOk l.prog w (K w.params) mg base CX k fa fd [x] (sp (K w.params)))
  (hsp:∀ (K:PySem.W.Frag) (H:Hp) (a:Addr) (ns:List Int),ns.length<=n->Only H->SqL K H a (ns.map V.int)->sp K [.ref a] H (λ v _=>v=.bl true) λ _ _ _=>False)
  (hCX:∀ (H:Hp) (s:Shared) (e:Value) (s':Shared),CX [] H s (λ _ _ _=>False) e s'->False) :
  PySem.W.WalkO q loose XP YP l.row.toRowW d [] (λ f vs=>PySem.call f vs) :=
 Afk (K:=K) (CX:=λ _=>CX) (sp:=λ w=>sp (K w.params)) hn hn2 hdf hr hY F (λ w H a ns h1 h2 h3=>hsp (K w.params) H a ns h1 h2 h3) λ _ H s e s'=>hCX H s e s'
end L2
namespace L2
open PySem PySem.Spec PyProof.Rows

noncomputable def Hz (s:Stmt):Arguments:=match s with
 | .FunctionDef _ a _ _ _ _ _ _ _ _=>a
 | _=>{ posonlyargs:=[],args:=[],vararg:=none,kwonlyargs:=[],kw_defaults:=[],kwarg:=none,defaults:=[] }
noncomputable def Fg (s:Stmt):List Stmt:=match s with
 | .FunctionDef _ _ b _ _ _ _ _ _ _=>b
 | _=>[]
noncomputable def Ai (s:Stmt):Scope:=match s with
 | .FunctionDef _ _ _ _ _ _ sc _ _ _=>sc
 | _=>{ kind:=.function,names:=[],isGenerator:=false,isCoroutine:=false }

noncomputable abbrev CX0:CXT:=λ _ _ _ _ _ _=>False
noncomputable abbrev E0:XK:=λ _ _ _=>False
theorem Am0 {X:Cx}:Passes CX0 X E0:=λ _ _ _ _ _ _ _ h=>h.elim

structure Fun (K:PySem.W.Frag) (x qual:Str) (st:Stmt) (f:Addr) (fd:FuncData):Prop where
 ex:∃ (oc:Value) (od:Option Addr) (kV doc pm:Value) (an:Option Addr) (cdv ct:Value) (osl:Array (Option Value)),
  fd=PySem.W.fnOf x qual (Hz st) (Fg st) (Ai st) .none kV doc pm an cdv ct/\K.lookup f=some ⟨oc,od,.func fd,osl⟩/\PySem.W.codeIn K cdv qual=true
 kp:PySem.W.keepIn K (.ref f)=true
section
variable {P:Program}{w:World}{K:PySem.W.Frag}{mg:Str->Option Value}{base:Heap}
theorem Fun.ok {x qual:Str}{st:Stmt}{f:Addr}{fd:FuncData}{N ps:List Str}{k:Nat}{sp:Sp}(F:Fun K x qual st f fd) (S:FnScope N ps (Ai st)) (len:∀ vs H Q E,sp vs H Q E->vs.length=ps.length)
  (hbody:∀ (cdv:Value) (A:Around) (outer:List Env) (s:Shared) (H:Hp) (vs:List V) (Q:VK) (E:XK),Room k (A.deeper (envOfC qual (Ai st) s.heap.objs.size f cdv))->sp vs H Q E →
   ∃ t,PSs (Adg CX0 P w K mg base N qual (Ai st) f cdv A outer s H E).nox (Fg st) t/\t { nx:=λ _ H'=>Q .non H',rt:=Q } (start N vs) H):FnOk P w K mg base CX0 (k+1) f fd ps sp:=by
 obtain⟨oc,od,kV,doc,pm,an,cdv,ct,osl,rfl,lk,hcd⟩:=F.ex
 refine Ai8 lk hcd S len λ A outer s H vs Q E hr hsp=>?_
 obtain⟨t,h,q⟩:=hbody cdv A outer s H vs Q E hr hsp
 exact⟨t,h.nox,q⟩
theorem Fun.binds {x qual:Str}{st:Stmt}{f:Addr}{fd:FuncData}{ps:List Str}(F:Fun K x qual st f fd)
  (h:∀ (kV doc pm:Value) (an:Option Addr) (cdv ct:Value) (us:List Value),us.length=ps.length->bindArgs (PySem.W.fnOf x qual (Hz st) (Fg st) (Ai st) .none kV doc pm an cdv ct) ⟨us,[]⟩=pure (ps.zip us)):Binds K fd ps []:=by
 obtain⟨oc,od,kV,doc,pm,an,cdv,ct,osl,rfl,lk,hcd⟩:=F.ex
 exact .all (h kV doc pm an cdv ct)
theorem Ajf {x qual:Str}{st:Stmt}{f:Addr}{oc:Value}{od an:Option Addr}{osl:Array (Option Value)}{kV doc pm cdv ct:Value}(l:K.lookup f=some ⟨oc,od,.func (PySem.W.fnOf x qual (Hz st) (Fg st) (Ai st) .none kV doc pm an cdv ct),osl⟩)
  (c:PySem.W.codeIn K cdv qual=true) (k:PySem.W.keepIn K (.ref f)=true):Fun K x qual st f (PySem.W.fnOf x qual (Hz st) (Fg st) (Ai st) .none kV doc pm an cdv ct):=⟨⟨oc,od,kV,doc,pm,an,cdv,ct,osl,rfl,l,c⟩,k⟩
end
theorem Pz {n:Nat}(h:n<=1000):n<sizeLine:=Nat.lt_of_le_of_lt h (by decide)

section
variable {X:Cx}
theorem pv (i:Nat) {x:Str}{pos:Pos}(hN:X.N[i]?=some x:=by rfl) (hv:Vis X.env.scope x:=by first|exact Or.inl rfl|exact Or.inr (Or.inl rfl)|exact Or.inr (Or.inr rfl)) (hd:(x == ("__debug__":Str))=false:=by decide)
  (hcd:(x == ("__classdict__":Str))=false:=by decide):PE X (.Name x pos) (Apf i):=Mx hN hv hd hcd
end

noncomputable def Same (H H':Hp):Prop:=∀ b o,H b=some o->H' b=some o
theorem Same.refl (H:Hp):Same H H:=λ _ _ h=>h
theorem Same.trans {H H1 H2:Hp}(a:Same H H1) (b:Same H1 H2):Same H H2:=λ c o h=>b c o (a c o h)
theorem Same.seq {K:PySem.W.Frag}{H H':Hp}{a:Addr}{xs:List V}(e:Same H H') (h:SqL K H a xs):SqL K H' a xs:=by
 rcases h with (h|⟨o,h⟩)|h
 ·exact .inl (.inl (e _ _ h))
 ·exact .inl (.inr ⟨o,e _ _ h⟩)
 ·exact .inr h

section
variable {κ:Type} [DecidableEq κ]
end
end L2

set_option Elab.async false
set_option linter.all false
set_option maxRecDepth 100000
namespace M
open PySem PySem.W PySem.Spec PyProof.Rows L2
noncomputable def NF (X:Cx) (a:Addr):Prop:=∀ o u,X.H₀ a≠some (.frz o u)
section
variable {X:Cx}{pins:List (Addr × Obj)}{σ:L2.St}{H:Hp}{s:Shared}{a:Addr}{o:Obj}{kvs:List (List Key × V)}
theorem Qi {P:Program}{w:World}{h:Heap}{b:Addr}{u:HO}(e:H a=some (.dT kvs)) (x:Cp P w H h b u):Cp P w (upd H a (.frz o (.dT kvs))) h b u :=
 x.stay (λ c v _ q=>q) (λ c q=>by rw [Ah (Vq q e (λ z=>nomatch z))];exact q) λ c xs q=>by rw [Ah (Vq q e (λ z=>nomatch z))];exact q
theorem _root_.L2.Inv.tag (I:Inv X pins σ H s) (e:H a=some (.dT kvs)) (g:s.heap.get? a=some o):Inv X pins σ (upd H a (.frz o (.dT kvs))) s/\NF X a:=by
 have nn:∀ b,H b=none->b≠a:=λ b n z=>by rw [z,e] at n;cases n
 refine⟨⟨I.ok,I.os,I.bare,⟨I.base.keep,I.base.slot,λ b ob q n hx=>?_,I.base.there,λ b xs q=>?_,λ b ob u q=>?_,λ b ps q=>?_⟩,I.loc,I.cell,?_,λ x c q=>?_,λ p hp=>?_,λ b u q=>?_,I.len⟩,λ ob u q=>?_⟩
 ·have:=I.base.free b ob q n hx
  rw [Ah (nn b this)];exact this
 ·have:=I.base.tups b xs q
  rw [Ah (Vq this e (λ z=>nomatch z))];exact this
 ·have:=I.base.frzs b ob u q
  rw [Ah (Vq this e (λ z=>nomatch z))];exact this
 ·obtain⟨m,this⟩:=I.base.tbls b ps q
  exact⟨m,by rw [Ah (Vq this e (λ z=>nomatch z))];exact this⟩
 ·rw [Ah (nn _ I.free)];exact I.free
 ·have:=I.freeC x c q
  rw [Ah (nn _ this)];exact this
 ·obtain⟨h1,h2,h3⟩:=I.pin p hp
  exact⟨h1,by rw [Ah (nn _ h2)];exact h2,h3⟩
 ·by_cases hb:b=a
  ·subst hb
   rw [Aq] at q
   cases q
   exact⟨g,Qi e (I.hok b _ e)⟩
  ·rw [Ah hb] at q
   exact Qi e (I.hok b u q)
 ·have:=I.base.frzs a ob u q
  rw [e] at this;cases this
end

theorem Ajv {X:Cx}{e:Expr}{t:TE}(h:PE X e t):PE X e (λ σ H Q=>t σ H λ v H'=>Q v H'\/∃ a ws,v=.ref a/\H' a=some (.dT ws)/\∀ o,Q v (upd H' a (.frz o (.dT ws)))):=λ pins s σ H Q I q =>
 thn (h pins s σ H _ I q) λ v s' ⟨x,H',I',r,q⟩=>by
  rcases q with q|⟨a,ws,rfl,e,q⟩
  ·exact⟨x,H',I',r,q⟩
  ·obtain⟨z,y,xs,rr,o,es,ep,h1,h2⟩:=(show Cp X.prog X.w H' s'.heap a (.dT ws) from I'.hok a _ e)
   exact⟨_,_,(I'.tag e h1).1,r,q o⟩
end M

set_option Elab.async false
set_option linter.all false
set_option maxRecDepth 100000
namespace M
open PySem PySem.Spec PyProof.Rows L2

noncomputable abbrev St:=L2.St
inductive D where
 | non|bl (b:Bool)|int (i:Int)|str (s:Str)
 | tup (xs:List D)|lst (xs:List D)|dic (kvs:List (List Int × D))
  | scr (ns:List Int)
instance:Inhabited D:=⟨.non⟩

mutual
noncomputable def Rp (K:PySem.W.Frag) (H:Hp) (O:Addr->Prop):D->V->Prop
 | .non,v=>v=.non
 | .bl b,v=>v=.bl b
 | .int i,v=>v=.int i
 | .str s,v=>v=.str s
 | .tup ds,v=>∃ a vs,v=.ref a/\¬ O a/\H a=some (.tup vs)/\Rps K H O ds vs
 | .lst ds,v=>∃ a vs,v=.ref a/\¬ O a/\H a=some (.lst vs)/\Rps K H O ds vs
 | .dic kvs,v=>∃ a ws,v=.ref a/\¬ O a/\(∃ o,H a=some (.frz o (.dT ws)))/\Rpk K H O kvs ws
 | .scr ns,v=>∃ a,v=.ref a/\((¬ O a/\Rd H a (.lst (ns.map V.int)))\/SqL K (λ _=>none) a (ns.map V.int))
noncomputable def Rps (K:PySem.W.Frag) (H:Hp) (O:Addr->Prop):List D->List V->Prop
 | [],vs=>vs=[]
 | d :: ds,vs=>∃ v r,vs=v :: r/\Rp K H O d v/\Rps K H O ds r
noncomputable def Rpk (K:PySem.W.Frag) (H:Hp) (O:Addr->Prop):List (List Int × D)->List (List Key × V)->Prop
 | [],ws=>ws=[]
 | kd :: r,ws=>∃ v r',ws=(kd.1.map Sum.inl,v) :: r'/\Rpq K H O kd v/\Rpk K H O r r'
noncomputable def Rpq (K:PySem.W.Frag) (H:Hp) (O:Addr->Prop):List Int × D->V->Prop
 | (_,d),v=>Rp K H O d v
end
section
variable {K:PySem.W.Frag}{H H':Hp}{O O':Addr->Prop}
mutual
theorem Rp.mono (s:Same H H') (o:∀ a,O' a->O a):∀ {d:D}{v:V},Rp K H O d v->Rp K H' O' d v
 | .non,_,h=>h
 | .bl _,_,h=>h
 | .int _,_,h=>h
 | .str _,_,h=>h
 | .tup _,_,h=>by
  unfold Rp at h ⊢
  obtain⟨a,vs,e,no,q,r⟩:=h
  exact⟨a,vs,e,λ z=>no (o a z),s _ _ q,Rps.mono s o r⟩
 | .lst _,_,h=>by
  unfold Rp at h ⊢
  obtain⟨a,vs,e,no,q,r⟩:=h
  exact⟨a,vs,e,λ z=>no (o a z),s _ _ q,Rps.mono s o r⟩
 | .dic _,_,h=>by
  unfold Rp at h ⊢
  obtain⟨a,vs,e,no,q,r⟩:=h
  exact⟨a,vs,e,λ z=>no (o a z),q.imp λ _ h=>s _ _ h,Rpk.mono s o r⟩
 | .scr _,_,h=>by
  unfold Rp at h ⊢
  obtain⟨a,e,⟨no,q⟩|q⟩:=h
  ·refine⟨a,e,.inl ⟨λ z=>no (o a z),?_⟩⟩
   rcases q with q|⟨ob,q⟩
   ·exact .inl (s _ _ q)
   ·exact .inr ⟨ob,s _ _ q⟩
  ·exact⟨a,e,.inr q⟩
theorem Rps.mono (s:Same H H') (o:∀ a,O' a->O a):∀ {ds:List D}{vs:List V},Rps K H O ds vs->Rps K H' O' ds vs
 | [],_,h=>h
 | _ :: _,_,h=>by
  unfold Rps at h ⊢
  obtain⟨v,r,e,p,q⟩:=h
  exact⟨v,r,e,Rp.mono s o p,Rps.mono s o q⟩
theorem Rpk.mono (s:Same H H') (o:∀ a,O' a->O a):∀ {ds:List (List Int × D)}{vs:List (List Key × V)},Rpk K H O ds vs->Rpk K H' O' ds vs
 | [],_,h=>h
 | (_,_) :: _,_,h=>by
  unfold Rpk at h ⊢
  obtain⟨v,r,e,p,q⟩:=h
  unfold Rpq at p ⊢
  exact⟨v,r,e,Rp.mono s o p,Rpk.mono s o q⟩
end
theorem Rp.scr {ns:List Int}{v:V}(h:Rp K H O (.scr ns) v):∃ a,v=.ref a/\SqL K H a (ns.map V.int):=by
 unfold Rp at h
 obtain⟨a,e,⟨_,q⟩|q⟩:=h
 ·exact⟨a,e,.inl q⟩
 ·exact⟨a,e,Same.seq (λ _ _ z=>by cases z) q⟩
mutual
theorem Rp.fresh {a:Addr}(n:H a=none):∀ {d:D}{v:V},Rp K H O d v->Rp K H (λ b=>O b\/b=a) d v
 | .non,_,h=>h
 | .bl _,_,h=>h
 | .int _,_,h=>h
 | .str _,_,h=>h
 | .tup _,_,h=>by
  unfold Rp at h ⊢
  obtain⟨b,vs,e,no,q,r⟩:=h
  exact⟨b,vs,e,λ z=>z.elim no λ z=>(by subst z;rw [n] at q;cases q),q,Rps.fresh n r⟩
 | .lst _,_,h=>by
  unfold Rp at h ⊢
  obtain⟨b,vs,e,no,q,r⟩:=h
  exact⟨b,vs,e,λ z=>z.elim no λ z=>(by subst z;rw [n] at q;cases q),q,Rps.fresh n r⟩
 | .dic _,_,h=>by
  unfold Rp at h ⊢
  obtain⟨b,vs,e,no,q,r⟩:=h
  exact⟨b,vs,e,λ z=>z.elim no λ z=>(by subst z;obtain⟨_,q⟩:=q;rw [n] at q;cases q),q,Rpk.fresh n r⟩
 | .scr _,_,h=>by
  unfold Rp at h ⊢
  obtain⟨b,e,⟨no,q⟩|q⟩:=h
  ·refine⟨b,e,.inl ⟨λ z=>z.elim no λ z=>?_,q⟩⟩
   subst z
   rcases q with q|⟨ob,q⟩<;>(rw [n] at q;cases q)
  ·exact⟨b,e,.inr q⟩
theorem Rps.fresh {a:Addr}(n:H a=none):∀ {ds:List D}{vs:List V},Rps K H O ds vs->Rps K H (λ b=>O b\/b=a) ds vs
 | [],_,h=>h
 | _ :: _,_,h=>by
  unfold Rps at h ⊢
  obtain⟨v,r,e,p,q⟩:=h
  exact⟨v,r,e,Rp.fresh n p,Rps.fresh n q⟩
theorem Rpk.fresh {a:Addr}(n:H a=none):∀ {ds:List (List Int × D)}{vs:List (List Key × V)},Rpk K H O ds vs->Rpk K H (λ b=>O b\/b=a) ds vs
 | [],_,h=>h
 | (_,_) :: _,_,h=>by
  unfold Rpk at h ⊢
  obtain⟨v,r,e,p,q⟩:=h
  unfold Rpq at p ⊢
  exact⟨v,r,e,Rp.fresh n p,Rpk.fresh n q⟩
end
mutual
theorem Rp.write {a:Addr}{u:HO}(n:O a):∀ {d:D}{v:V},Rp K H O d v->Rp K (upd H a u) O d v
 | .non,_,h=>h
 | .bl _,_,h=>h
 | .int _,_,h=>h
 | .str _,_,h=>h
 | .tup _,_,h=>by
  unfold Rp at h ⊢
  obtain⟨b,vs,e,no,q,r⟩:=h
  exact⟨b,vs,e,no,by rw [Ah (λ z=>no (by rw [z];exact n))];exact q,Rps.write n r⟩
 | .lst _,_,h=>by
  unfold Rp at h ⊢
  obtain⟨b,vs,e,no,q,r⟩:=h
  exact⟨b,vs,e,no,by rw [Ah (λ z=>no (by rw [z];exact n))];exact q,Rps.write n r⟩
 | .dic _,_,h=>by
  unfold Rp at h ⊢
  obtain⟨b,vs,e,no,q,r⟩:=h
  exact⟨b,vs,e,no,by rw [Ah (λ z=>no (by rw [z];exact n))];exact q,Rpk.write n r⟩
 | .scr _,_,h=>by
  unfold Rp at h ⊢
  obtain⟨b,e,⟨no,q⟩|q⟩:=h
  ·refine⟨b,e,.inl ⟨no,?_⟩⟩
   have hb:b≠a:=λ z=>no (by rw [z];exact n)
   unfold Rd
   rw [Ah hb];exact q
  ·exact⟨b,e,.inr q⟩
theorem Rps.write {a:Addr}{u:HO}(n:O a):∀ {ds:List D}{vs:List V},Rps K H O ds vs->Rps K (upd H a u) O ds vs
 | [],_,h=>h
 | _ :: _,_,h=>by
  unfold Rps at h ⊢
  obtain⟨v,r,e,p,q⟩:=h
  exact⟨v,r,e,Rp.write n p,Rps.write n q⟩
theorem Rpk.write {a:Addr}{u:HO}(n:O a):∀ {ds:List (List Int × D)}{vs:List (List Key × V)},Rpk K H O ds vs->Rpk K (upd H a u) O ds vs
 | [],_,h=>h
 | (_,_) :: _,_,h=>by
  unfold Rpk at h ⊢
  obtain⟨v,r,e,p,q⟩:=h
  unfold Rpq at p ⊢
  exact⟨v,r,e,Rp.write n p,Rpk.write n q⟩
end
mutual
theorem Rp.move (m:∀ a o,¬ O a->H a=some o->H' a=some o/\¬ O' a):∀ {d:D}{v:V},Rp K H O d v->Rp K H' O' d v
 | .non,_,h=>h
 | .bl _,_,h=>h
 | .int _,_,h=>h
 | .str _,_,h=>h
 | .tup _,_,h=>by
  unfold Rp at h ⊢
  obtain⟨b,vs,e,no,q,r⟩:=h
  exact⟨b,vs,e,(m _ _ no q).2,(m _ _ no q).1,Rps.move m r⟩
 | .lst _,_,h=>by
  unfold Rp at h ⊢
  obtain⟨b,vs,e,no,q,r⟩:=h
  exact⟨b,vs,e,(m _ _ no q).2,(m _ _ no q).1,Rps.move m r⟩
 | .dic _,_,h=>by
  unfold Rp at h ⊢
  obtain⟨b,vs,e,no,q,r⟩:=h
  exact⟨b,vs,e,(m _ _ no q.choose_spec).2,q.imp λ _ h=>(m _ _ no h).1,Rpk.move m r⟩
 | .scr _,_,h=>by
  unfold Rp at h ⊢
  obtain⟨b,e,⟨no,q⟩|q⟩:=h
  ·refine⟨b,e,.inl ?_⟩
   rcases q with q|⟨ob,q⟩
   ·exact⟨(m _ _ no q).2,.inl (m _ _ no q).1⟩
   ·exact⟨(m _ _ no q).2,.inr ⟨ob,(m _ _ no q).1⟩⟩
  ·exact⟨b,e,.inr q⟩
theorem Rps.move (m:∀ a o,¬ O a->H a=some o->H' a=some o/\¬ O' a):∀ {ds:List D}{vs:List V},Rps K H O ds vs->Rps K H' O' ds vs
 | [],_,h=>h
 | _ :: _,_,h=>by
  unfold Rps at h ⊢
  obtain⟨v,r,e,p,q⟩:=h
  exact⟨v,r,e,Rp.move m p,Rps.move m q⟩
theorem Rpk.move (m:∀ a o,¬ O a->H a=some o->H' a=some o/\¬ O' a):∀ {ds:List (List Int × D)}{vs:List (List Key × V)},Rpk K H O ds vs->Rpk K H' O' ds vs
 | [],_,h=>h
 | (_,_) :: _,_,h=>by
  unfold Rpk at h ⊢
  obtain⟨v,r,e,p,q⟩:=h
  unfold Rpq at p ⊢
  exact⟨v,r,e,Rp.move m p,Rpk.move m q⟩
end
theorem Rps.nil:Rps K H O [] []:=rfl
theorem Rps.cons {d:D}{v:V}{ds:List D}{vs:List V}(h:Rp K H O d v) (r:Rps K H O ds vs):Rps K H O (d :: ds) (v :: vs):=by
 unfold Rps;exact⟨v,vs,rfl,h,r⟩
theorem Rps.length:∀ {ds:List D}{vs:List V},Rps K H O ds vs->vs.length=ds.length
 | [],_,h=>by unfold Rps at h;subst h;rfl
 | _ :: _,_,h=>by
  unfold Rps at h
  obtain⟨v,r,rfl,p,q⟩:=h
  simp [Rps.length q]
theorem Rps.get:∀ {ds:List D}{vs:List V}{i:Nat}{d:D},Rps K H O ds vs->ds[i]?=some d->∃ v,vs[i]?=some v/\Rp K H O d v
 | [],_,_,_,_,e=>by simp at e
 | _ :: _,_,0,_,h,e=>by
  unfold Rps at h
  obtain⟨v,r,rfl,p,q⟩:=h
  simp at e;subst e
  exact⟨v,rfl,p⟩
 | _ :: _,_,i+1,_,h,e=>by
  unfold Rps at h
  obtain⟨v,r,rfl,p,q⟩:=h
  simp at e
  obtain⟨u,h1,h2⟩:=Rps.get q e
  exact⟨u,by simpa using h1,h2⟩
theorem Rps.append:∀ {ds es:List D}{vs ws:List V},Rps K H O ds vs->Rps K H O es ws->Rps K H O (ds++es) (vs++ws)
 | [],_,_,_,h,g=>by unfold Rps at h;subst h;exact g
 | _ :: _,_,_,_,h,g=>by
  unfold Rps at h
  obtain⟨v,r,rfl,p,q⟩:=h
  exact Rps.cons p (Rps.append q g)
theorem Rps.take:∀ {ds:List D}{vs:List V}(n:Nat),Rps K H O ds vs->Rps K H O (ds.take n) (vs.take n)
 | _,_,0,_=>by simp;exact Rps.nil
 | [],_,n+1,h=>by unfold Rps at h;subst h;simp;exact Rps.nil
 | _ :: _,_,n+1,h=>by
  unfold Rps at h
  obtain⟨v,r,rfl,p,q⟩:=h
  exact Rps.cons p (Rps.take n q)
theorem Rps.drop:∀ {ds:List D}{vs:List V}(n:Nat),Rps K H O ds vs->Rps K H O (ds.drop n) (vs.drop n)
 | _,_,0,h=>by simpa using h
 | [],_,n+1,h=>by unfold Rps at h;subst h;simp;exact Rps.nil
 | _ :: _,_,n+1,h=>by
  unfold Rps at h
  obtain⟨v,r,rfl,p,q⟩:=h
  simpa using Rps.drop n q
end

inductive R (α:Type) where
 | ok (a:α)|er (c:Nat)|no
noncomputable def R.bind {α β:Type}:R α->(α->R β)->R β
 | .ok a,f=>f a
 | .er c,_=>.er c
 | .no,_=>.no
instance:Monad R where
 pure:=R.ok
 bind:=R.bind
@[simp] theorem R.ok_bind {α β:Type}(a:α) (f:α->R β):(R.ok a >>= f)=f a:=rfl
@[simp] theorem R.er_bind {α β:Type}(c:Nat) (f:α->R β):(R.er c >>= f)=R.er c:=rfl
@[simp] theorem R.no_bind {α β:Type}(f:α->R β):((R.no:R α) >>= f)=R.no:=rfl
@[simp] theorem R.pure_ok {α:Type}(a:α):(pure a:R α)=R.ok a:=rfl
noncomputable def Fin {α:Type}(r:R α) (p:α->Prop) (x:Nat->Prop):Prop:=match r with
 | .ok a=>p a
 | .er c=>x c
 | .no=>False
theorem Fin.bind {α β:Type}{r:R α}{f:α->R β}{p:β->Prop}{x:Nat->Prop}(h:Fin (r >>= f) p x):Fin r (λ a=>Fin (f a) p x) x:=by
 cases r<;>exact h
theorem Fin.mono {α:Type}{r:R α}{p q:α->Prop}{x:Nat->Prop}(h:Fin r p x) (f:∀ a,p a->q a):Fin r q x:=by
 cases r with
 | ok a=>exact f a h
 | er c=>exact h
 | no=>exact h

inductive Sl where
 | un|fz (d:D)|ow (d:D)
noncomputable abbrev Ev:=List Sl
structure Fc where
 h0:Hp
 pr:Addr->Prop
 xc:Nat->Prop
noncomputable def Ow (pr:Addr->Prop) (E:Ev) (σ:St) (a:Addr):Prop:=pr a\/∃ (i:Nat) (d:D),E[i]?=some (.ow d)/\σ[i]?=some (some (.ref a))
noncomputable def Own (K:PySem.W.Frag) (H:Hp) (O:Addr->Prop):D->Addr->Prop
 | .lst ds,a=>∃ vs,H a=some (.lst vs)/\Rps K H O ds vs
 | .dic kvs,a=>∃ ws,H a=some (.dT ws)/\Rpk K H O kvs ws
 | _,_=>False
theorem Own.mono {K:PySem.W.Frag}{H H':Hp}{O O':Addr->Prop}{d:D}{a:Addr}(s:Same H H') (o:∀ a,O' a->O a) (h:Own K H O d a):Own K H' O' d a:=by
 cases d with
 | lst ds=>obtain⟨vs,e,r⟩:=h;exact⟨vs,s _ _ e,r.mono s o⟩
 | dic ds=>obtain⟨vs,e,r⟩:=h;exact⟨vs,s _ _ e,r.mono s o⟩
 | _=>exact h
noncomputable def Ji:HO->Prop
 | .tup _=>False
 | _=>True
noncomputable def Sane (H:Hp) (O:Addr->Prop):Prop:=∀ a,O a->∃ o,H a=some o/\Ji o
theorem Sane.fr {H:Hp}{O:Addr->Prop}(h:Sane H O) {p:Addr}(hp:H p=none):¬ O p:=λ z=>by
 obtain⟨o,e,_⟩:=h p z
 rw [hp] at e;cases e
theorem Sane.tup {H:Hp}{O:Addr->Prop}(h:Sane H O) {p:Addr}{vs:List V}(hp:H p=some (.tup vs)):¬ O p:=λ z=>by
 obtain⟨o,e,n⟩:=h p z
 rw [hp] at e;cases e;exact n
theorem Own.there {K:PySem.W.Frag}{H:Hp}{O:Addr->Prop}{d:D}{a:Addr}(h:Own K H O d a):∃ o,H a=some o/\Ji o:=by
 cases d with
 | lst ds=>obtain⟨vs,e,r⟩:=h;exact⟨_,e,True.intro⟩
 | dic ds=>obtain⟨vs,e,r⟩:=h;exact⟨_,e,True.intro⟩
 | _=>exact h.elim
noncomputable def Abz:D->Bool
 | .dic _=>true
 | _=>false
theorem Own.rp {K:PySem.W.Frag}{H:Hp}{O:Addr->Prop}{d:D}{a:Addr}(h:Own K H O d a) (no:¬ O a) (hd:Abz d=false):Rp K H O d (.ref a):=by
 cases d with
 | lst ds=>obtain⟨vs,e,r⟩:=h;unfold Rp;exact⟨a,vs,rfl,no,e,r⟩
 | dic ds=>cases hd
 | _=>exact h.elim
section
variable {K:PySem.W.Frag}{H:Hp}{O:Addr->Prop}{a:Addr}{ob:Obj}{kvs:List (List Key × V)}
mutual
theorem Rp.tag (n:H a=some (.dT kvs)):∀ {d:D}{v:V},Rp K H O d v->Rp K (upd H a (.frz ob (.dT kvs))) O d v
 | .non,_,h=>h
 | .bl _,_,h=>h
 | .int _,_,h=>h
 | .str _,_,h=>h
 | .tup _,_,h=>by
  unfold Rp at h ⊢
  obtain⟨b,vs,e,no,q,r⟩:=h
  exact⟨b,vs,e,no,by rw [Ah (λ z=>by rw [z,n] at q;cases q)];exact q,Rps.tag n r⟩
 | .lst _,_,h=>by
  unfold Rp at h ⊢
  obtain⟨b,vs,e,no,q,r⟩:=h
  exact⟨b,vs,e,no,by rw [Ah (λ z=>by rw [z,n] at q;cases q)];exact q,Rps.tag n r⟩
 | .dic _,_,h=>by
  unfold Rp at h ⊢
  obtain⟨b,vs,e,no,⟨o,q⟩,r⟩:=h
  exact⟨b,vs,e,no,⟨o,by rw [Ah (λ z=>by rw [z,n] at q;cases q)];exact q⟩,Rpk.tag n r⟩
 | .scr _,_,h=>by
  unfold Rp at h ⊢
  obtain⟨b,e,⟨no,q⟩|q⟩:=h
  ·refine⟨b,e,.inl ⟨no,?_⟩⟩
   have hb:b≠a:=λ z=>by
    subst z
    rcases q with q|⟨o,q⟩<;>(rw [n] at q;cases q)
   unfold Rd
   rw [Ah hb];exact q
  ·exact⟨b,e,.inr q⟩
theorem Rps.tag (n:H a=some (.dT kvs)):∀ {ds:List D}{vs:List V},Rps K H O ds vs->Rps K (upd H a (.frz ob (.dT kvs))) O ds vs
 | [],_,h=>h
 | _ :: _,_,h=>by
  unfold Rps at h ⊢
  obtain⟨v,r,e,p,q⟩:=h
  exact⟨v,r,e,Rp.tag n p,Rps.tag n q⟩
theorem Rpk.tag (n:H a=some (.dT kvs)):∀ {ds:List (List Int × D)}{vs:List (List Key × V)},Rpk K H O ds vs->Rpk K (upd H a (.frz ob (.dT kvs))) O ds vs
 | [],_,h=>h
 | (_,_) :: _,_,h=>by
  unfold Rpk at h ⊢
  obtain⟨v,r,e,p,q⟩:=h
  unfold Rpq at p ⊢
  exact⟨v,r,e,Rp.tag n p,Rpk.tag n q⟩
end
end
theorem Own.tagged {K:PySem.W.Frag}{H:Hp}{O:Addr->Prop}{ds:List (List Int × D)}{a:Addr}(h:Own K H O (.dic ds) a) (no:¬ O a):∃ ws,H a=some (.dT ws)/\∀ o,Rp K (upd H a (.frz o (.dT ws))) O (.dic ds) (.ref a):=by
 obtain⟨ws,e,r⟩:=h
 refine⟨ws,e,λ o=>?_⟩
 unfold Rp
 exact⟨a,ws,rfl,no,⟨o,Aq⟩,r.tag e⟩
structure Rel (K:PySem.W.Frag) (G:Fc) (E:Ev) (σ:St) (H:Hp):Prop where
 len:E.length=σ.length
 fz:∀ (i:Nat) d,E[i]?=some (.fz d)->∃ v,σ[i]?=some (some v)/\Rp K H (Ow G.pr E σ) d v
 ow:∀ (i:Nat) d,E[i]?=some (.ow d)->∃ a,σ[i]?=some (some (.ref a))/\Own K H (Ow G.pr E σ) d a/\G.h0 a=none
 ne:∀ (i j:Nat) d e a,E[i]?=some (.ow d)->E[j]?=some (.ow e)->σ[i]?=some (some (.ref a))->σ[j]?=some (some (.ref a))->i=j
 base:Same G.h0 H
 prt:∀ a,G.pr a->∃ o,G.h0 a=some o/\Ji o
section
variable {K:PySem.W.Frag}{G:Fc}{E:Ev}{σ:St}{H H':Hp}
theorem Rel.same (r:Rel K G E σ H) (s:Same H H'):Rel K G E σ H' where
 len:=r.len
 fz:=λ i d e=>by obtain⟨v,h1,h2⟩:=r.fz i d e;exact⟨v,h1,h2.mono s λ _ z=>z⟩
 ow:=λ i d e=>by obtain⟨a,h1,h2,h3⟩:=r.ow i d e;exact⟨a,h1,h2.mono s λ _ z=>z,h3⟩
 ne:=r.ne
 base:=r.base.trans s
 prt:=r.prt
theorem Rel.owned (r:Rel K G E σ H) {a:Addr}(h:Ow G.pr E σ a):∃ o,H a=some o/\Ji o:=by
 rcases h with h|⟨i,d,h1,h2⟩
 ·obtain⟨o,e,n⟩:=r.prt a h
  exact⟨o,r.base _ _ e,n⟩
 ·obtain⟨b,e1,e2,_⟩:=r.ow i d h1
  rw [h2] at e1;cases e1
  exact e2.there
theorem Rel.fresh (r:Rel K G E σ H) {a:Addr}(h:H a=none):¬ Ow G.pr E σ a:=λ z=>by
 obtain⟨o,e,_⟩:=r.owned z
 rw [h] at e;cases e
theorem Rel.sane (r:Rel K G E σ H):Sane H (Ow G.pr E σ):=λ a h=>r.owned h
end
theorem Ar {H:Hp}{p:Addr}{o:HO}(h:H p=none):Same H (upd H p o):=λ b u e=>by
 rw [Ah (Aw e h)];exact e

noncomputable def Rt (K:PySem.W.Frag) (H:Hp) (O:Addr->Prop) (d:D) (v:V):Prop:=Rp K H O d v\/∃ a,v=.ref a/\Own K H O d a
theorem Rt.mono {K:PySem.W.Frag}{H H':Hp}{O O':Addr->Prop}{d:D}{v:V}(s:Same H H') (o:∀ a,O' a->O a) (h:Rt K H O d v):Rt K H' O' d v:=by
 rcases h with h|⟨a,e,h⟩
 ·exact .inl (h.mono s o)
 ·exact .inr ⟨a,e,h.mono s o⟩
section
variable {K:PySem.W.Frag}{H:Hp}{O:Addr->Prop}{v:V}
theorem Rt.int {i:Int}(h:Rt K H O (.int i) v):v=.int i:=by
 rcases h with h|⟨a,e,h⟩
 ·exact h
 ·exact h.elim
theorem Rt.bl {i:Bool}(h:Rt K H O (.bl i) v):v=.bl i:=by
 rcases h with h|⟨a,e,h⟩
 ·exact h
 ·exact h.elim
theorem Rt.str {i:Str}(h:Rt K H O (.str i) v):v=.str i:=by
 rcases h with h|⟨a,e,h⟩
 ·exact h
 ·exact h.elim
theorem Rt.non (h:Rt K H O .non v):v=.non:=by
 rcases h with h|⟨a,e,h⟩
 ·exact h
 ·exact h.elim
theorem Rt.lst {ds:List D}(h:Rt K H O (.lst ds) v):∃ a vs,v=.ref a/\H a=some (.lst vs)/\Rps K H O ds vs:=by
 rcases h with h|⟨a,e,vs,q,r⟩
 ·unfold Rp at h
  obtain⟨a,vs,e,_,q,r⟩:=h
  exact⟨a,vs,e,q,r⟩
 ·exact⟨a,vs,e,q,r⟩
theorem Rt.tup {ds:List D}(h:Rt K H O (.tup ds) v):∃ a vs,v=.ref a/\H a=some (.tup vs)/\Rps K H O ds vs:=by
 rcases h with h|⟨a,e,h⟩
 ·unfold Rp at h
  obtain⟨a,vs,e,_,q,r⟩:=h
  exact⟨a,vs,e,q,r⟩
 ·exact h.elim
theorem Rt.dic {ds:List (List Int × D)}(h:Rt K H O (.dic ds) v):∃ a vs,v=.ref a/\Rd H a (.dT vs)/\Rpk K H O ds vs:=by
 rcases h with h|⟨a,e,vs,q,r⟩
 ·unfold Rp at h
  obtain⟨a,vs,e,_,q,r⟩:=h
  exact⟨a,vs,e,.inr q,r⟩
 ·exact⟨a,vs,e,.inl q,r⟩
end

noncomputable abbrev EV:=Ev->R D
inductive Out where
 | nx (E:Ev)|bk (E:Ev)|ct (E:Ev)|rt (d:D)
noncomputable abbrev EX:=Ev->R Out

noncomputable def SE (X:Cx) (G:Fc) (e:Expr) (m:EV):Prop :=
 PE X e λ σ H Q=>∃ E,Rel X.K G E σ H/\Fin (m E) (λ d=>∀ v H',Same H H'->Rt X.K H' (Ow G.pr E σ) d v->Q v H') G.xc
noncomputable def SF (X:Cx) (G:Fc) (e:Expr) (m:EV):Prop :=
 PE X e λ σ H Q=>∃ E,Rel X.K G E σ H/\Fin (m E) (λ d=>∀ v H',Same H H'->Rp X.K H' (Ow G.pr E σ) d v->Q v H') G.xc
noncomputable def SN (X:Cx) (G:Fc) (e:Expr) (m:EV):Prop :=
 PE X e λ σ H Q=>∃ E,Rel X.K G E σ H/\Fin (m E) (λ d=>∀ a H',Same H H'->H a=none->Own X.K H' (λ b=>Ow G.pr E σ b\/b=a) d a->Q (.ref a) H') G.xc
noncomputable def ST (X:Cx) (G:Fc) (e:Expr) (m:Ev->R Bool):Prop :=
 PT X e λ σ H Q=>∃ E,Rel X.K G E σ H/\Fin (m E) (λ b=>∀ H',Same H H'->Q b H') G.xc
noncomputable def SA (X:Cx) (G:Fc) (es:List Expr) (m:Ev->R (List D)):Prop :=
 PA X es λ σ H Q=>∃ E,Rel X.K G E σ H/\Fin (m E) (λ ds=>∀ vs H',Same H H'->Rps X.K H' (Ow G.pr E σ) ds vs->Q vs H') G.xc
noncomputable def T3 (K:PySem.W.Frag) (G:Fc) (Dn:Ends):Out->Prop
 | .nx E=>∀ σ H,Rel K G E σ H->Dn.nx σ H
 | .bk E=>∀ σ H,Rel K G E σ H->Dn.bk σ H
 | .ct E=>∀ σ H,Rel K G E σ H->Dn.ct σ H
 | .rt d=>∀ v H,Same G.h0 H->Rp K H G.pr d v->Dn.rt v H
noncomputable def SS (X:Cx) (G:Fc) (st:Stmt) (m:EX):Prop :=
 PS X st λ Dn σ H=>∃ E,Rel X.K G E σ H/\Fin (m E) (T3 X.K G Dn) G.xc
noncomputable def SB (X:Cx) (G:Fc) (st:List Stmt) (m:EX):Prop :=
 PSs X st λ Dn σ H=>∃ E,Rel X.K G E σ H/\Fin (m E) (T3 X.K G Dn) G.xc

theorem _root_.L2.PE.imp {X:Cx}{e:Expr}{t t':TE}(h:PE X e t) (i:∀ σ H Q,t' σ H Q->t σ H Q):PE X e t':=λ pins s σ H Q I q=>h pins s σ H Q I (i σ H Q q)
theorem _root_.L2.PT.imp {X:Cx}{e:Expr}{t t':TT}(h:PT X e t) (i:∀ σ H Q,t' σ H Q->t σ H Q):PT X e t':=λ pins s σ H Q I q=>h pins s σ H Q I (i σ H Q q)
theorem _root_.L2.PA.imp {X:Cx}{e:List Expr}{t t':TA}(h:PA X e t) (i:∀ σ H Q,t' σ H Q->t σ H Q):PA X e t':=λ pos pins s σ H Q I q=>h pos pins s σ H Q I (i σ H Q q)
theorem _root_.L2.PS.imp {X:Cx}{e:Stmt}{t t':TS}(h:PS X e t) (i:∀ D σ H,t' D σ H->t D σ H):PS X e t':=λ pins s σ H Q I q=>h pins s σ H Q I (i Q σ H q)
theorem _root_.L2.PSs.imp {X:Cx}{e:List Stmt}{t t':TS}(h:PSs X e t) (i:∀ D σ H,t' D σ H->t D σ H):PSs X e t':=λ pins s σ H Q I q=>h pins s σ H Q I (i Q σ H q)

section
variable {X:Cx}{G:Fc}{e:Expr}{m:EV}
theorem SF.se (h:SF X G e m):SE X G e m:=PE.imp h λ σ H Q ⟨E,r,f⟩=>⟨E,r,f.mono λ d q v H' s p=>q v H' s (.inl p)⟩
theorem SN.sf (h:SN X G e m):SF X G e m:=PE.imp (Ajv h) λ σ H Q ⟨E,r,f⟩=>⟨E,r,f.mono λ d q a H' s n p=>by
 have p':=p.mono (O':=Ow G.pr E σ) (Same.refl _) λ _ z=>.inl z
 cases hd:Abz d with
 | false=>exact .inl (q (.ref a) H' s (p'.rp (r.fresh n) hd))
 | true =>
  cases d with
  | dic ds =>
   obtain⟨ws,e,z⟩:=p'.tagged (r.fresh n)
   exact .inr ⟨a,ws,rfl,e,λ o=>q (.ref a) _ (λ b u hb=>by rw [Ah (Aw hb n)];exact s _ _ hb) (z o)⟩
  | _=>cases hd⟩
theorem SN.se (h:SN X G e m):SE X G e m:=h.sf.se
theorem Oj {K:PySem.W.Frag}{H H':Hp}{O:Addr->Prop}{d:D}{v:V}(h:Rt K H O d v) (s:Same H H'):Rt K H' O d v:=h.mono s λ _ z=>z
end
end M

set_option Elab.async false
set_option linter.all false
set_option maxRecDepth 100000
namespace M
open PySem PySem.Spec PyProof.Rows L2

noncomputable def ofO {α:Type}:Option α->R α
 | some a=>.ok a
 | none=>.no
@[simp] theorem Akc {α:Type}(a:α):ofO (some a)=.ok a:=rfl
@[simp] theorem Akp {α:Type}:ofO (none:Option α)=.no:=rfl
theorem Fin.of {α:Type}{o:Option α}{p:α->Prop}{x:Nat->Prop}(h:Fin (ofO o) p x):∃ a,o=some a/\p a:=by
 cases o with
 | none=>exact h.elim
 | some a=>exact⟨a,rfl,h⟩

noncomputable def vE (i:Nat):EV:=λ E=>match E[i]? with
 | some (.fz d)=>.ok d
 | some (.ow d)=>.ok d
 | _=>.no
noncomputable def vF (i:Nat):EV:=λ E=>match E[i]? with
 | some (.fz d)=>.ok d
 | _=>.no
noncomputable def kE (d:D):EV:=λ _=>.ok d
noncomputable def e1 (f:D->Option D) (a:EV):EV:=λ E=>a E >>= λ x=>ofO (f x)
noncomputable def e2 (f:D->D->Option D) (a b:EV):EV:=λ E=>a E >>= λ x=>b E >>= λ y=>ofO (f x y)
noncomputable def Bf:Ev->R (List D):=λ _=>.ok []
noncomputable def Ac (a:EV) (r:Ev->R (List D)):Ev->R (List D):=λ E=>a E >>= λ x=>r E >>= λ xs=>.ok (x :: xs)
noncomputable def eA (f:List D->Option D) (a:Ev->R (List D)):EV:=λ E=>a E >>= λ xs=>ofO (f xs)
noncomputable def Bh (a:EV):Ev->R Bool:=λ E=>a E >>= λ d=>match d with
 | .bl b=>.ok b
 | _=>.no

section
variable {X:Cx}{G:Fc}

theorem Aa (i:Nat) {x:Str}{pos:Pos}(hN:X.N[i]?=some x:=by rfl) (hv:Vis X.env.scope x:=by first|exact Or.inl rfl|exact Or.inr (Or.inl rfl)|exact Or.inr (Or.inr rfl)) (hd:(x == ("__debug__":Str))=false:=by decide)
  (hcd:(x == ("__classdict__":Str))=false:=by decide):SE X G (.Name x pos) (vE i):=(Mx hN hv hd hcd).imp λ σ H Q z0=>z0.elim λ E z0=>z0.elim λ r f=>by
 unfold vE at f
 revert f
 cases h:E[i]? with
 | none=>exact λ f=>f.elim
 | some sl =>
  cases sl with
  | un=>exact λ f=>f.elim
  | fz d=>exact λ f=>by obtain⟨v,e,p⟩:=r.fz i d h;exact⟨v,e,f v H (Same.refl _) (.inl p)⟩
  | ow d=>exact λ f=>by obtain⟨a,e,p,_⟩:=r.ow i d h;exact⟨_,e,f _ H (Same.refl _) (.inr ⟨a,rfl,p⟩)⟩
theorem Ag (i:Nat) {x:Str}{pos:Pos}(hN:X.N[i]?=some x:=by rfl) (hv:Vis X.env.scope x:=by first|exact Or.inl rfl|exact Or.inr (Or.inl rfl)|exact Or.inr (Or.inr rfl)) (hd:(x == ("__debug__":Str))=false:=by decide)
  (hcd:(x == ("__classdict__":Str))=false:=by decide):SF X G (.Name x pos) (vF i):=(Mx hN hv hd hcd).imp λ σ H Q z0=>z0.elim λ E z0=>z0.elim λ r f=>by
 unfold vF at f
 revert f
 cases h:E[i]? with
 | none=>exact λ f=>f.elim
 | some sl =>
  cases sl with
  | un=>exact λ f=>f.elim
  | fz d=>exact λ f=>by obtain⟨v,e,p⟩:=r.fz i d h;exact⟨v,e,f v H (Same.refl _) p⟩
  | ow d=>exact λ f=>f.elim
theorem Ad {i j pos}:SF X G (.Constant (.int i) j pos) (kE (.int i)):=Ady.imp λ σ H Q z0=>z0.elim λ E z0=>z0.elim λ r f=>f _ H (Same.refl _) rfl
theorem Agm {i j pos}:SF X G (.Constant (.bool i) j pos) (kE (.bl i)):=Ak9.imp λ σ H Q z0=>z0.elim λ E z0=>z0.elim λ r f=>f _ H (Same.refl _) rfl
theorem En {i j pos}:SF X G (.Constant (.str i) j pos) (kE (.str i)):=Uo.imp λ σ H Q z0=>z0.elim λ E z0=>z0.elim λ r f=>f _ H (Same.refl _) rfl
theorem Ad0 {j pos}:SF X G (.Constant .none j pos) (kE .non):=Ahs.imp λ σ H Q z0=>z0.elim λ E z0=>z0.elim λ r f=>f _ H (Same.refl _) rfl
theorem Afl {x:Str}{i:Int}{u:Value}{pos:Pos}(hg:Gl X x) (hm:X.mg x=some u) (r:RelV (.int i) u) (hd:(x == ("__debug__":Str))=false:=by decide):SF X G (.Name x pos) (kE (.int i)) :=
 (Kq hg hm r hd).imp λ σ H Q z0=>z0.elim λ E z0=>z0.elim λ r f=>f _ H (Same.refl _) rfl

noncomputable def OpD (K:PySem.W.Frag) (r:R2) (f:D->D->Option D):Prop :=
 ∀ (H:Hp) (O:Addr->Prop) (dx dy d:D) (v w:V) (Q:VK),Sane H O->f dx dy=some d->Rt K H O dx v->Rt K H O dy w->(∀ u H',Same H H'->Rp K H' O d u->Q u H')->r v w H Q
theorem two {r:R2}{f:D->D->Option D}{ma mb:EV}{a b:Expr}{P:D->Prop}{σ:St}{H:Hp}{Q:VK}{E:Ev}(hr:Rel X.K G E σ H) (h:Fin (e2 f ma mb E) P G.xc)
  (k:∀ (H2:Hp) (dx dy d:D) (v w:V),Same H H2->f dx dy=some d->P d->Rt X.K H2 (Ow G.pr E σ) dx v->Rt X.K H2 (Ow G.pr E σ) dy w->r v w H2 Q) :
  tOp r (λ σ H Q=>∃ E,Rel X.K G E σ H/\Fin (ma E) (λ d=>∀ v H',Same H H'->Rt X.K H' (Ow G.pr E σ) d v->Q v H') G.xc)
   (λ σ H Q=>∃ E,Rel X.K G E σ H/\Fin (mb E) (λ d=>∀ v H',Same H H'->Rt X.K H' (Ow G.pr E σ) d v->Q v H') G.xc) σ H Q:=by
 refine⟨E,hr,(Fin.bind h).mono λ dx fx v H1 s1 p1=>⟨E,hr.same s1,(Fin.bind fx).mono λ dy fy w H2 s2 p2=>?_⟩⟩
 obtain⟨d,e,q⟩:=Fin.of fy
 exact k H2 dx dy d v w (s1.trans s2) e q (Oj p1 s2) p2
section
variable {a b:Expr}{ma mb:EV}{pos:Pos}{f:D->D->Option D}{r:R2}
theorem O7 {op:Operator}(ho:OpR X (binaryOp op) r) (hf:OpD X.K r f) (ha:SE X G a ma) (hb:SE X G b mb):SF X G (.BinOp a op b pos) (e2 f ma mb) :=
 (Al0 ho ha hb).imp λ σ H Q z0=>z0.elim λ E z0=>z0.elim λ hr h=>two (a:=a) (b:=b) hr h λ H2 dx dy d v w s e p rv rw=>hf H2 _ dx dy d v w Q (hr.same s).sane e rv rw λ u H' s' z=>p u H' (s.trans s') z
theorem Vi {op:CmpOp}(ho:OpR X (compareOp op) r) (hf:OpD X.K r f) (ha:SE X G a ma) (hb:SE X G b mb) (hm:behindInMarks op b=false):SF X G (.Compare a [op] [b] pos) (e2 f ma mb) :=
 (Aew ho ha hb hm).imp λ σ H Q z0=>z0.elim λ E z0=>z0.elim λ hr h=>two (a:=a) (b:=b) hr h λ H2 dx dy d v w s e p rv rw=>hf H2 _ dx dy d v w Q (hr.same s).sane e rv rw λ u H' s' z=>p u H' (s.trans s') z
theorem Amq (hs:Lj b) (ho:IxR X r) (hf:OpD X.K r f) (ha:SE X G a ma) (hb:SE X G b mb):SF X G (.Subscript a b pos) (e2 f ma mb) :=
 (Aas ho ha hb hs).imp λ σ H Q z0=>z0.elim λ E z0=>z0.elim λ hr h=>two (a:=a) (b:=b) hr h λ H2 dx dy d v w s e p rv rw=>hf H2 _ dx dy d v w Q (hr.same s).sane e rv rw λ u H' s' z=>p u H' (s.trans s') z
theorem U8 {op:CmpOp}(ho:OpR X (compareOp op) r) (hf:OpD X.K r f) (ha:SE X G a ma) (hb:SE X G b mb) (hm:behindInMarks op b=false):ST X G (.Compare a [op] [b] pos) (Bh (e2 f ma mb)) :=
 (Afi ho ha hb hm).imp λ σ H Q z0=>z0.elim λ E z0=>z0.elim λ hr h=>by
  refine two (a:=a) (b:=b) (P:=λ d=>Fin (match d with|.bl b=>R.ok b|_=>.no) (λ b=>∀ H',Same H H'->Q b H') G.xc) hr (Fin.bind h) λ H2 dx dy d v w s e p rv rw=>hf H2 _ dx dy d v w _ (hr.same s).sane e rv rw λ u H' s' z=>?_
  cases d with
  | bl k=>exact⟨k,z,p H' (s.trans s')⟩
  | _=>exact p.elim
theorem Ku {e:Expr}{m:EV}(h:SE X G e m) (he:∀ whole,isTrue e X.env whole=(do let v ← whole;standAt e.pos;holding [v] (truthy v)):=by intro _;rfl):ST X G e (Bh m) :=
 (Ade h he).imp λ σ H Q z0=>z0.elim λ E z0=>z0.elim λ hr f=>⟨E,hr,(Fin.bind f).mono λ d p v H' s z=>by
  cases d with
  | bl k=>exact⟨k,z.bl,p H' s⟩
  | _=>exact p.elim⟩
end

noncomputable def Akh:D->Option Bool
 | .non=>some false
 | .bl b=>some b
 | .int i=>some (i != 0)
 | .lst ds=>some (!ds.isEmpty)
 | .tup ds=>some (!ds.isEmpty)
 | _=>none
noncomputable def Ase (a:EV):Ev->R Bool:=λ E=>a E >>= λ d=>ofO (Akh d)

section
variable {a b c:Expr}{ma mb:EV}{pos:Pos}{ta tb tc:Ev->R Bool}{rest:List Expr}
noncomputable def Agu (t u:Ev->R Bool):Ev->R Bool:=λ E=>t E >>= λ k=>if k=true then u E else .ok false
noncomputable def bOr (t u:Ev->R Bool):Ev->R Bool:=λ E=>t E >>= λ k=>if k=true then .ok true else u E
noncomputable def Ot (t:Ev->R Bool):Ev->R Bool:=λ E=>t E >>= λ k=>.ok (!k)
noncomputable def SW (X:Cx) (G:Fc) (e:Expr) (m:Ev->R Bool):Prop :=
 PW X e λ σ H Q=>∃ E,Rel X.K G E σ H/\Fin (m E) (λ b=>∀ H',Same H H'->Q b H') G.xc
theorem SW.st {m:Ev->R Bool}(h:SW X G a m):ST X G a m:=PW.pt h
theorem Sg (ha:ST X G a ta):SW X G (.BoolOp .And [a] pos) ta:=Af1 ha
theorem O5 (ha:ST X G a ta):SW X G (.BoolOp .Or [a] pos) ta:=Adl ha
theorem Yg (ha:ST X G a ta) (hb:SW X G (.BoolOp .And (b :: rest) pos) tb):SW X G (.BoolOp .And (a :: b :: rest) pos) (Agu ta tb):=by
 rintro wh pins s σ H Q I ⟨E,hr,f⟩
 refine Ag8 ha hb wh pins s σ H Q I ⟨E,hr,(Fin.bind f).mono λ k p H' s'=>?_⟩
 cases k with
 | true=>exact⟨E,hr.same s',Fin.mono p λ b q H2 s2=>q H2 (s'.trans s2)⟩
 | false=>exact p H' s'
theorem Wn (ha:ST X G a ta) (hb:SW X G (.BoolOp .Or (b :: rest) pos) tb):SW X G (.BoolOp .Or (a :: b :: rest) pos) (bOr ta tb):=by
 rintro wh pins s σ H Q I ⟨E,hr,f⟩
 refine Aek ha hb wh pins s σ H Q I ⟨E,hr,(Fin.bind f).mono λ k p H' s'=>?_⟩
 cases k with
 | false=>exact⟨E,hr.same s',Fin.mono p λ b q H2 s2=>q H2 (s'.trans s2)⟩
 | true=>exact p H' s'
theorem Jo (ha:ST X G a ta):ST X G (.UnaryOp .Not a pos) (Ot ta):=(Adu ha).imp λ σ H Q ⟨E,hr,f⟩=>⟨E,hr,(Fin.bind f).mono λ k p H' s=>p H' s⟩
noncomputable def Aam (t u:EV):EV:=λ E=>t E >>= λ d=>match d with
 | .bl true=>u E
 | .bl false=>.ok (.bl false)
 | _=>.no
noncomputable def eOr (t u:EV):EV:=λ E=>t E >>= λ d=>match d with
 | .bl true=>.ok (.bl true)
 | .bl false=>u E
 | _=>.no
noncomputable def Anw (t:EV):EV:=λ E=>t E >>= λ d=>match d with
 | .bl k=>.ok (.bl (!k))
 | _=>.no
theorem Ux {op}(ha:SF X G a ma):SF X G (.BoolOp op [a] pos) ma:=Ajy ha
theorem Q8 (ha:SF X G a ma) (hb:SF X G (.BoolOp .And (b :: rest) pos) mb):SF X G (.BoolOp .And (a :: b :: rest) pos) (Aam ma mb) :=
 (Ahu ha hb).imp λ σ H Q z0=>z0.elim λ E z0=>z0.elim λ hr f=>⟨E,hr,(Fin.bind f).mono λ d p v H' s z=>by
  cases d with
  | bl k =>
   refine⟨k,z,?_⟩
   cases k with
   | true=>exact⟨E,hr.same s,Fin.mono p λ b q u H2 s2 y=>q u H2 (s.trans s2) y⟩
   | false=>exact p _ H' s rfl
  | _=>exact p.elim⟩
noncomputable def eIf (t:Ev->R Bool) (a b:EV):EV:=λ E=>t E >>= λ k=>if k=true then a E else b E
end

section
variable {e:Expr}{es:List Expr}{m:EV}{t:Ev->R (List D)}{pos:Pos}
theorem Ak:SA X G [] Bf:=Ea.imp λ σ H Q z0=>z0.elim λ E z0=>z0.elim λ hr f=>f [] H (Same.refl _) rfl
theorem Ab (he:SF X G e m) (hr:SA X G es t) (hs:starEach (e :: es) X.env=(false,eval e X.env) :: starEach es X.env:=by rfl):SA X G (e :: es) (Ac m t) :=
 (Br he hr hs).imp λ σ H Q ⟨E,hr,f⟩=>⟨E,hr,(Fin.bind f).mono λ d fx v H1 s1 p1=>⟨E,hr.same s1,(Fin.bind fx).mono λ ds fy vs H2 s2 p2 =>
  fy (v :: vs) H2 (s1.trans s2) (Rps.cons (p1.mono s2 λ _ z=>z) p2)⟩⟩
noncomputable def G6 (t:Ev->R (List D)):EV:=λ E=>t E >>= λ ds=>if ds.length<=1000 then .ok (.tup ds) else .no
noncomputable def K6 (t:Ev->R (List D)):EV:=λ E=>t E >>= λ ds=>if ds.length<=1000 then .ok (.lst ds) else .no
theorem Cq {x1}(h:SA X G es t):SF X G (.Tuple es x1 pos) (G6 t) :=
 (Aj0 h).imp λ σ H Q z0=>z0.elim λ E z0=>z0.elim λ hr f=>⟨E,hr,(Fin.bind f).mono λ ds fx vs H1 s1 p1=>by
  by_cases hl:ds.length<=1000
  ·rw [if_pos hl] at fx
   refine⟨by rw [p1.length];exact Nat.le_of_lt (Pz hl),λ p hp=>fx _ _ (s1.trans (Ar hp)) ?_⟩
   unfold Rp
   exact⟨p,vs,rfl,(hr.same s1).fresh hp,Aq,p1.mono (Ar hp) λ _ z=>z⟩
  ·rw [if_neg hl] at fx;exact fx.elim⟩
theorem Ew (h:SA X G es t):SN X G (.List es pos) (K6 t) :=
 (Ah3 h).imp λ σ H Q z0=>z0.elim λ E z0=>z0.elim λ hr f=>⟨E,hr,(Fin.bind f).mono λ ds fx vs H1 s1 p1=>by
  by_cases hl:ds.length<=1000
  ·rw [if_pos hl] at fx
   refine⟨by rw [p1.length];exact Nat.le_of_lt (Pz hl),λ p hp=>fx _ _ (s1.trans (Ar hp)) ?_ ?_⟩
   ·cases q:H p with
    | none=>rfl
    | some o=>rw [s1 _ _ q] at hp;cases hp
   exact⟨vs,Aq,(p1.fresh hp).mono (Ar hp) λ _ z=>z⟩
  ·rw [if_neg hl] at fx;exact fx.elim⟩
theorem Zr:SN X G (.Dict [] [] pos) (kE (.dic [])):=Aay.imp λ σ H Q z0=>z0.elim λ E z0=>z0.elim λ hr f=>λ p hp=>f p _ (Ar hp) hp ⟨[],Aq,rfl⟩
end
end
end M

set_option Elab.async false
set_option linter.all false
set_option maxRecDepth 100000
namespace M
open PySem PySem.Spec PyProof.Rows L2

noncomputable def b2i (b:Bool):Int:=if b=true then 1 else 0
mutual
noncomputable def pl:Nat->D->Bool
 | _,.non=>true
 | _,.bl _=>true
 | _,.int _=>true
 | _,.str _=>true
 | 0,.tup _=>false
 | 0,.lst _=>false
 | n+1,.tup ds=>pls n ds
 | n+1,.lst ds=>pls n ds
 | _,_=>false
noncomputable def pls:Nat->List D->Bool
 | _,[]=>true
 | n,d :: ds=>pl n d && pls n ds
end
mutual
noncomputable def eqb:D->D->Bool
 | .non,.non=>true
 | .bl a,.bl b=>a == b
 | .int a,.int b=>a == b
 | .bl a,.int b=>b2i a == b
 | .int a,.bl b=>a == b2i b
 | .str a,.str b=>a == b
 | .tup as,.tup bs=>Jf as bs
 | .lst as,.lst bs=>Jf as bs
 | _,_=>false
noncomputable def Jf:List D->List D->Bool
 | [],[]=>true
 | a :: as,b :: bs=>eqb a b && Jf as bs
 | _,_=>false
end
mutual
theorem Ny:∀ (n:Nat) (d:D),pl n d=true->eqb d d=true
 | _,.non,_=>by simp [eqb]
 | _,.bl _,_=>by simp [eqb]
 | _,.int _,_=>by simp [eqb]
 | _,.str _,_=>by simp [eqb]
 | 0,.tup _,h=>by simp [pl] at h
 | 0,.lst _,h=>by simp [pl] at h
 | n+1,.tup ds,h=>by rw [eqb];rw [pl] at h;exact Kv n ds h
 | n+1,.lst ds,h=>by rw [eqb];rw [pl] at h;exact Kv n ds h
 | _,.dic _,h=>by simp [pl] at h
 | _,.scr _,h=>by simp [pl] at h
theorem Kv:∀ (n:Nat) (ds:List D),pls n ds=true->Jf ds ds=true
 | _,[],_=>by simp [Jf]
 | n,d :: ds,h=>by
  rw [pls,Bool.and_eq_true] at h
  rw [Jf,Ny n d h.1,Kv n ds h.2];rfl
end
section
variable {K:PySem.W.Frag}{H:Hp}{O:Addr->Prop}
noncomputable abbrev NoO:Addr->Prop:=λ _=>False
theorem Rt.any {d:D}{v:V}{n:Nat}(h:Rt K H O d v) (hp:pl n d=true):Rp K H NoO d v:=by
 rcases h with h|⟨a,rfl,h⟩
 ·exact h.mono (Same.refl _) λ _ z=>z.elim
 ·refine (h.mono (Same.refl _) λ _ z=>z.elim).rp (λ z=>z) ?_
  cases d with
  | dic ds=>simp [pl] at hp
  | _=>rfl
mutual
theorem Rp.inj:∀ {n m:Nat}{d d':D}{v:V},pl n d=true->pl m d'=true->Rp K H O d v->Rp K H O d' v->d=d'
 | n,m,.non,d',v,h,h',r,r'=>by
  unfold Rp at r;subst r
  cases d'<;>unfold Rp at r'<;>first|rfl|(cases r';done)|(obtain⟨_,_,e,_⟩:=r';cases e)|(obtain⟨_,e,_⟩:=r';cases e)
 | n,m,.bl b,d',v,h,h',r,r'=>by
  unfold Rp at r;subst r
  cases d'<;>unfold Rp at r'<;>first|(cases r';rfl)|(cases r';done)|(obtain⟨_,_,e,_⟩:=r';cases e)|(obtain⟨_,e,_⟩:=r';cases e)
 | n,m,.int b,d',v,h,h',r,r'=>by
  unfold Rp at r;subst r
  cases d'<;>unfold Rp at r'<;>first|(cases r';rfl)|(cases r';done)|(obtain⟨_,_,e,_⟩:=r';cases e)|(obtain⟨_,e,_⟩:=r';cases e)
 | n,m,.str b,d',v,h,h',r,r'=>by
  unfold Rp at r;subst r
  cases d'<;>unfold Rp at r'<;>first|(cases r';rfl)|(cases r';done)|(obtain⟨_,_,e,_⟩:=r';cases e)|(obtain⟨_,e,_⟩:=r';cases e)
 | n,m,.tup ds,d',v,h,h',r,r'=>by
  unfold Rp at r
  obtain⟨a,vs,rfl,_,q,rs⟩:=r
  cases n with
  | zero=>simp [pl] at h
  | succ n =>
  cases d' with
  | tup ds' =>
   cases m with
   | zero=>simp [pl] at h'
   | succ m =>
   unfold Rp at r'
   obtain⟨b,ws,e,_,q',rs'⟩:=r'
   cases e
   rw [q] at q';cases q'
   rw [pl] at h h'
   rw [Rps.inj h h' rs rs']
  | lst ds'=>unfold Rp at r';obtain⟨b,ws,e,_,q',rs'⟩:=r';cases e;rw [q] at q';cases q'
  | dic _=>simp [pl] at h'
  | scr _=>simp [pl] at h'
  | _=>unfold Rp at r';cases r'
 | n,m,.lst ds,d',v,h,h',r,r'=>by
  unfold Rp at r
  obtain⟨a,vs,rfl,_,q,rs⟩:=r
  cases n with
  | zero=>simp [pl] at h
  | succ n =>
  cases d' with
  | lst ds' =>
   cases m with
   | zero=>simp [pl] at h'
   | succ m =>
   unfold Rp at r'
   obtain⟨b,ws,e,_,q',rs'⟩:=r'
   cases e
   rw [q] at q';cases q'
   rw [pl] at h h'
   rw [Rps.inj h h' rs rs']
  | tup ds'=>unfold Rp at r';obtain⟨b,ws,e,_,q',rs'⟩:=r';cases e;rw [q] at q';cases q'
  | dic _=>simp [pl] at h'
  | scr _=>simp [pl] at h'
  | _=>unfold Rp at r';cases r'
 | n,m,.dic ds,d',v,h,h',r,r'=>by simp [pl] at h
 | n,m,.scr ds,d',v,h,h',r,r'=>by simp [pl] at h
theorem Rps.inj:∀ {n m:Nat}{ds ds':List D}{vs:List V},pls n ds=true->pls m ds'=true->Rps K H O ds vs->Rps K H O ds' vs->ds=ds'
 | n,m,[],ds',vs,h,h',r,r'=>by
  unfold Rps at r;subst r
  cases ds' with
  | nil=>rfl
  | cons _ _=>unfold Rps at r';obtain⟨_,_,e,_⟩:=r';cases e
 | n,m,d :: ds,ds',vs,h,h',r,r'=>by
  unfold Rps at r
  obtain⟨v,rr,rfl,p,q⟩:=r
  cases ds' with
  | nil=>unfold Rps at r';cases r'
  | cons d' ds' =>
   unfold Rps at r'
   obtain⟨v',rr',e,p',q'⟩:=r'
   cases e
   rw [pls,Bool.and_eq_true] at h h'
   rw [Rp.inj h.1 h'.1 p p',Rps.inj h.2 h'.2 q q']
end
end

theorem Ge:∀ {as bs:List D},as.length≠bs.length->Jf as bs=false
 | [],[],h=>absurd rfl h
 | [],_ :: _,_=>by simp [Jf]
 | _ :: _,[],_=>by simp [Jf]
 | a :: as,b :: bs,h=>by
  rw [Jf,Ge (λ z=>h (by simp [z]))];simp
theorem Dt:∀ {as bs:List D},as.length=bs.length->Jf as bs=(List.range as.length).all λ i=>eqb (as.getD i .non) (bs.getD i .non)
 | [],[],_=>by simp [Jf]
 | a :: as,b :: bs,h=>by
  rw [Jf,Dt (by simpa using h)]
  simp only [List.length_cons,List.range_succ_eq_map,List.all_cons,List.all_map]
  rfl
 | [],_ :: _,h=>by simp at h
 | _ :: _,[],h=>by simp at h

section
variable {X:Cx}{pins:List (Addr × Obj)}{σ:St}{H:Hp}{s:Shared}{O:Addr->Prop}
theorem Gi {ds:List D}{vs:List V}{its:List Value}(r:Rps X.K H O ds vs) (q:Vals vs its) (j:Nat) (h:j<its.length):∃ v,Rp X.K H O (ds.getD j .non) v/\RelV v its[j]:=by
 have h1:j<vs.length:=by rw [q.length];exact h
 have h2:j<ds.length:=by rw [<-r.length];exact h1
 obtain⟨v,e,p⟩:=r.get (i:=j) (d:=ds[j]) (by simp [h2])
 obtain⟨u,e2,p2⟩:=q.get e
 refine⟨v,?_,?_⟩
 ·simpa [List.getD,h2] using p
 ·rw [List.getElem?_eq_getElem h] at e2;cases e2;exact p2
theorem Ci:∀ {n:Nat}{ds:List D},pls n ds=true->∀ j,pl n (ds.getD j .non)=true
 | n,[],_,j=>by simp [pl]
 | n,d :: ds,h,0=>by rw [pls,Bool.and_eq_true] at h;exact h.1
 | n,d :: ds,h,j+1=>by rw [pls,Bool.and_eq_true] at h;exact Ci h.2 j
noncomputable def scD:D->Bool
 | .non=>true|.bl _=>true|.int _=>true|.str _=>true
 | _=>false
theorem Gw {m:Nat}{A:Around}{dx dy:D}{v w:V}{u u':Value}(I:Inv X pins σ H s) (hu:A.units<cLine) (px:scD dx=true) (py:pl m dy=true) (rx:Rp X.K H O dx v) (ry:Rp X.K H O dy w) (qx:RelV v u) (qy:RelV w u'):SeqAt.EqAt A s u u' (eqb dx dy):=by
 have two:∀ {b w},Rp X.K H O b w->(∃ es,b=.tup es)\/(∃ es,b=.lst es)->∀ {z},RelV w z->∃ a its,z=.ref a/\(((∃ es,b=.tup es)/\s.heap.IsTuple a its)\/((∃ es,b=.lst es)/\s.heap.IsList a its)):=λ {b w} r h z q=>by
  rcases h with ⟨es,rfl⟩|⟨es,rfl⟩
  ·unfold Rp at r
   obtain⟨a,vs,rfl,_,q',rs⟩:=r
   cases q
   obtain⟨its,vr,ht,hz⟩:=I.tuple (SqT.of q')
   exact⟨a,_,rfl,.inl ⟨⟨es,rfl⟩,ht⟩⟩
  ·unfold Rp at r
   obtain⟨a,vs,rfl,_,q',rs⟩:=r
   cases q
   obtain⟨its,vr,ht,hz⟩:=I.list (SqL.of q')
   exact⟨a,_,rfl,.inr ⟨⟨es,rfl⟩,ht.isList⟩⟩
 cases dx with
 | tup _=>cases px
 | lst _=>cases px
 | dic _=>cases px
 | scr _=>cases px
 | non =>
  unfold Rp at rx;subst rx;cases qx
  cases dy with
  | non=>unfold Rp at ry;subst ry;cases qy;exact SeqAt.EqAt.same _
  | bl _=>unfold Rp at ry;subst ry;cases qy;exact SeqAt.EqAt.none_bool _
  | int _=>unfold Rp at ry;subst ry;obtain⟨t,rfl⟩:=qy;exact SeqAt.EqAt.none_int _ _
  | str _=>unfold Rp at ry;subst ry;obtain⟨t,rfl⟩:=qy;exact SeqAt.EqAt.none_str _ _
  | dic _=>simp [pl] at py
  | scr _=>simp [pl] at py
  | tup es =>
   obtain⟨a,its,rfl,⟨_,ht⟩|⟨⟨_,e⟩,ht⟩⟩:=two ry (.inl ⟨_,rfl⟩) qy
   ·exact SeqAt.EqAt.none_tuple ht hu
   ·cases e
  | lst es =>
   obtain⟨a,its,rfl,⟨⟨_,e⟩,ht⟩|⟨_,ht⟩⟩:=two ry (.inr ⟨_,rfl⟩) qy
   ·cases e
   ·exact SeqAt.EqAt.none_list ht hu
 | bl _ =>
  unfold Rp at rx;subst rx;cases qx
  cases dy with
  | non=>unfold Rp at ry;subst ry;cases qy;exact SeqAt.EqAt.bool_none _
  | bl _=>unfold Rp at ry;subst ry;cases qy;exact SeqAt.EqAt.bool_bool _ _
  | int _=>unfold Rp at ry;subst ry;obtain⟨t,rfl⟩:=qy;exact SeqAt.EqAt.bool_int _ _ _
  | str _=>unfold Rp at ry;subst ry;obtain⟨t,rfl⟩:=qy;exact SeqAt.EqAt.bool_str _ _ _
  | dic _=>simp [pl] at py
  | scr _=>simp [pl] at py
  | tup es =>
   obtain⟨a,its,rfl,⟨_,ht⟩|⟨⟨_,e⟩,ht⟩⟩:=two ry (.inl ⟨_,rfl⟩) qy
   ·exact SeqAt.EqAt.bool_tuple _ ht hu
   ·cases e
  | lst es =>
   obtain⟨a,its,rfl,⟨⟨_,e⟩,ht⟩|⟨_,ht⟩⟩:=two ry (.inr ⟨_,rfl⟩) qy
   ·cases e
   ·exact SeqAt.EqAt.bool_list _ ht hu
 | int _ =>
  unfold Rp at rx;subst rx;obtain⟨t0,rfl⟩:=qx
  cases dy with
  | non=>unfold Rp at ry;subst ry;cases qy;exact SeqAt.EqAt.int_none _ _
  | bl _=>unfold Rp at ry;subst ry;cases qy;exact SeqAt.EqAt.int_bool _ _ _
  | int _=>unfold Rp at ry;subst ry;obtain⟨t,rfl⟩:=qy;exact SeqAt.EqAt.int_int _ _ _ _
  | str _=>unfold Rp at ry;subst ry;obtain⟨t,rfl⟩:=qy;exact SeqAt.EqAt.int_str _ _ _ _
  | dic _=>simp [pl] at py
  | scr _=>simp [pl] at py
  | tup es =>
   obtain⟨a,its,rfl,⟨_,ht⟩|⟨⟨_,e⟩,ht⟩⟩:=two ry (.inl ⟨_,rfl⟩) qy
   ·exact SeqAt.EqAt.int_tuple _ _ ht hu
   ·cases e
  | lst es =>
   obtain⟨a,its,rfl,⟨⟨_,e⟩,ht⟩|⟨_,ht⟩⟩:=two ry (.inr ⟨_,rfl⟩) qy
   ·cases e
   ·exact SeqAt.EqAt.int_list _ _ ht hu
 | str _ =>
  unfold Rp at rx;subst rx;obtain⟨t0,rfl⟩:=qx
  cases dy with
  | non=>unfold Rp at ry;subst ry;cases qy;exact SeqAt.EqAt.str_none _ _
  | bl _=>unfold Rp at ry;subst ry;cases qy;exact SeqAt.EqAt.str_bool _ _ _
  | int _=>unfold Rp at ry;subst ry;obtain⟨t,rfl⟩:=qy;exact SeqAt.EqAt.str_int _ _ _ _
  | str _=>unfold Rp at ry;subst ry;obtain⟨t,rfl⟩:=qy;exact SeqAt.EqAt.str_str _ _ _ _
  | dic _=>simp [pl] at py
  | scr _=>simp [pl] at py
  | tup es =>
   obtain⟨a,its,rfl,⟨_,ht⟩|⟨⟨_,e⟩,ht⟩⟩:=two ry (.inl ⟨_,rfl⟩) qy
   ·exact SeqAt.EqAt.str_tuple _ _ ht hu
   ·cases e
  | lst es =>
   obtain⟨a,its,rfl,⟨⟨_,e⟩,ht⟩|⟨_,ht⟩⟩:=two ry (.inr ⟨_,rfl⟩) qy
   ·cases e
   ·exact SeqAt.EqAt.str_list _ _ ht hu
theorem Aac:∀ (n m:Nat) (A:Around) (dx dy:D) (v w:V) (u u':Value),Inv X pins σ H s->A.units+n<cLine->pl n dx=true->pl m dy=true->Rp X.K H O dx v->Rp X.K H O dy w->RelV v u->RelV w u'->SeqAt.EqAt A s u u' (eqb dx dy):=by
 intro n
 induction n with
 | zero =>
  intro m A dx dy v w u u' I hu px py rx ry qx qy
  cases dx with
  | tup _=>simp [pl] at px
  | lst _=>simp [pl] at px
  | dic _=>simp [pl] at px
  | scr _=>simp [pl] at px
  | non=>exact Gw I (by omega) rfl py rx ry qx qy
  | bl _=>exact Gw I (by omega) rfl py rx ry qx qy
  | int _=>exact Gw I (by omega) rfl py rx ry qx qy
  | str _=>exact Gw I (by omega) rfl py rx ry qx qy
 | succ n ih =>
  intro m A dx dy v w u u' I hu px py rx ry qx qy
  cases dx with
  | dic _=>simp [pl] at px
  | scr _=>simp [pl] at px
  | non=>exact Gw I (by omega) rfl py rx ry qx qy
  | bl _=>exact Gw I (by omega) rfl py rx ry qx qy
  | int _=>exact Gw I (by omega) rfl py rx ry qx qy
  | str _=>exact Gw I (by omega) rfl py rx ry qx qy
  | tup ds =>
   have rx':=rx
   unfold Rp at rx
   obtain⟨a,vs,rfl,_,q,rs⟩:=rx
   cases qx
   obtain⟨its,vr,ht,hz⟩:=I.tuple (SqT.of q)
   have ht:s.heap.IsTuple a its.toArray:=ht
   cases dy with
   | non=>unfold Rp at ry;subst ry;cases qy;exact SeqAt.EqAt.tuple_none ht (by omega)
   | bl _=>unfold Rp at ry;subst ry;cases qy;exact SeqAt.EqAt.tuple_bool _ ht (by omega)
   | int _=>unfold Rp at ry;subst ry;obtain⟨t,rfl⟩:=qy;exact SeqAt.EqAt.tuple_int _ _ ht (by omega)
   | str _=>unfold Rp at ry;subst ry;obtain⟨t,rfl⟩:=qy;exact SeqAt.EqAt.tuple_str _ _ ht (by omega)
   | dic _=>simp [pl] at py
   | scr _=>simp [pl] at py
   | lst es =>
    unfold Rp at ry
    obtain⟨b,ws,rfl,_,q',rs'⟩:=ry
    cases qy
    obtain⟨its',vr',ht',hz'⟩:=I.list (SqL.of q')
    exact SeqAt.EqAt.tuple_list ht ht'.isList (by omega)
   | tup es =>
    cases m with
    | zero=>simp [pl] at py
    | succ m =>
    have ry':=ry
    unfold Rp at ry
    obtain⟨b,ws,rfl,_,q',rs'⟩:=ry
    cases qy
    by_cases hab:a=b
    ·subst hab
     have e:=Rp.inj px py rx' ry'
     rw [<-e,Ny _ _ px]
     exact SeqAt.EqAt.same _
    ·obtain⟨its',vr',ht',hz'⟩:=I.tuple (SqT.of q')
     have ht':s.heap.IsTuple b its'.toArray:=ht'
     rw [pl] at px py
     have l1:its.length=ds.length:=by rw [<-vr.length,rs.length]
     have l2:its'.length=es.length:=by rw [<-vr'.length,rs'.length]
     refine SeqAt.EqAt.of_refs hab ?_
     have main:=SeqAt.RcAt.tuples (A:=A) (e:=λ j=>eqb (ds.getD j .non) (es.getD j .non)) ht ht' (by omega) (λ j h1 h2=>by
      simp only [List.size_toArray] at h1 h2
      obtain⟨v1,p1,p2⟩:=Gi (X:=X) rs vr j h1
      obtain⟨v2,p3,p4⟩:=Gi (X:=X) rs' vr' j h2
      have:=ih m A.in1 (ds.getD j .non) (es.getD j .non) v1 v2 _ _ I (by rw [units_in1];omega) (Ci px j) (Ci py j) p1 p3 p2 p4
      simpa using this)
     rw [eqb]
     by_cases hl:ds.length=es.length
     ·rw [Dt hl]
      simp only [List.size_toArray,l1,l2,hl,Nat.min_self,beq_self_eq_true,Bool.and_true] at main
      rw [hl];exact main
     ·rw [Ge hl]
      simp only [List.size_toArray,l1,l2] at main
      rw [beq_eq_false_iff_ne.mpr hl,Bool.and_false] at main
      exact main
  | lst ds =>
   have rx':=rx
   unfold Rp at rx
   obtain⟨a,vs,rfl,_,q,rs⟩:=rx
   cases qx
   obtain⟨its,vr,ht,hz⟩:=I.list (SqL.of q)
   have ht:=ht.isList
   cases dy with
   | non=>unfold Rp at ry;subst ry;cases qy;exact SeqAt.EqAt.list_none ht (by omega)
   | bl _=>unfold Rp at ry;subst ry;cases qy;exact SeqAt.EqAt.list_bool _ ht (by omega)
   | int _=>unfold Rp at ry;subst ry;obtain⟨t,rfl⟩:=qy;exact SeqAt.EqAt.list_int _ _ ht (by omega)
   | str _=>unfold Rp at ry;subst ry;obtain⟨t,rfl⟩:=qy;exact SeqAt.EqAt.list_str _ _ ht (by omega)
   | dic _=>simp [pl] at py
   | scr _=>simp [pl] at py
   | tup es =>
    unfold Rp at ry
    obtain⟨b,ws,rfl,_,q',rs'⟩:=ry
    cases qy
    obtain⟨its',vr',ht',hz'⟩:=I.tuple (SqT.of q')
    exact SeqAt.EqAt.list_tuple ht ht' (by omega)
   | lst es =>
    cases m with
    | zero=>simp [pl] at py
    | succ m =>
    have ry':=ry
    unfold Rp at ry
    obtain⟨b,ws,rfl,_,q',rs'⟩:=ry
    cases qy
    by_cases hab:a=b
    ·subst hab
     have e:=Rp.inj px py rx' ry'
     rw [<-e,Ny _ _ px]
     exact SeqAt.EqAt.same _
    ·obtain⟨its',vr',ht',hz'⟩:=I.list (SqL.of q')
     have ht':=ht'.isList
     rw [pl] at px py
     have l1:its.length=ds.length:=by rw [<-vr.length,rs.length]
     have l2:its'.length=es.length:=by rw [<-vr'.length,rs'.length]
     refine SeqAt.EqAt.of_refs hab ?_
     rw [eqb]
     by_cases hl:ds.length=es.length
     ·have main:=SeqAt.RcAt.lists (A:=A) (e:=λ j=>eqb (ds.getD j .non) (es.getD j .non)) ht ht' (by simp [l1,l2,hl]) (by omega) (λ j h1 h2=>by
       simp only [List.size_toArray] at h1 h2
       obtain⟨v1,p1,p2⟩:=Gi (X:=X) rs vr j h1
       obtain⟨v2,p3,p4⟩:=Gi (X:=X) rs' vr' j h2
       have:=ih m A.in1 (ds.getD j .non) (es.getD j .non) v1 v2 _ _ I (by rw [units_in1];omega) (Ci px j) (Ci py j) p1 p3 p2 p4
       simpa using this)
      rw [Dt hl]
      simp only [List.size_toArray,l1] at main
      exact main
     ·rw [Ge hl]
      exact SeqAt.RcAt.lists_lengths ht ht' (by simp only [List.size_toArray,l1,l2];exact bne_iff_ne.mpr hl) (by omega)
end
end M

set_option Elab.async false
set_option linter.all false
set_option maxRecDepth 100000
namespace M
open PySem PySem.Spec PyProof.Rows L2
section
variable {X:Cx}{pins:List (Addr × Obj)}{σ:St}{H:Hp}{s:Shared}{O:Addr->Prop}
theorem Ak0 (n m:Nat) (A:Around) (dx dy:D) (v w:V) (u u':Value) (I:Inv X pins σ H s) (hu:A.units+n<cLine) (px:pl n dx=true) (py:pl m dy=true) (rx:Rp X.K H O dx v) (ry:Rp X.K H O dy w) (qx:RelV v u) (qy:RelV w u'):SeqAt.RcAt A s u u' ((eqb dx dy)):=by
 have hu0:A.units<cLine:=by omega
 cases dx with
 | dic _=>simp [pl] at px
 | scr _=>simp [pl] at px
 | non =>
  unfold Rp at rx;subst rx;cases qx
  cases dy with
  | dic _=>simp [pl] at py
  | scr _=>simp [pl] at py
  | non =>
   unfold Rp at ry;subst ry;cases qy
   exact SeqAt.RcAt.none_none
  | bl dy =>
   unfold Rp at ry;subst ry;cases qy
   exact SeqAt.RcAt.none_bool _
  | int dy =>
   unfold Rp at ry;subst ry;obtain⟨t2,rfl⟩:=qy
   exact SeqAt.RcAt.none_int _ _
  | str dy =>
   unfold Rp at ry;subst ry;obtain⟨t2,rfl⟩:=qy
   exact SeqAt.RcAt.none_str _ _
  | tup dy =>
   unfold Rp at ry;obtain⟨a2,vs2,rfl,_,h2,rs2⟩:=ry;cases qy;obtain⟨its2,vr2,ht2,hz2⟩:=I.tuple (SqT.of h2)
   exact SeqAt.RcAt.none_tuple ht2 hu0
  | lst dy =>
   unfold Rp at ry;obtain⟨a2,vs2,rfl,_,h2,rs2⟩:=ry;cases qy;obtain⟨its2,vr2,ht2,hz2⟩:=I.list (SqL.of h2);have ht2:=ht2.isList
   exact SeqAt.RcAt.none_list ht2 hu0
 | bl dx =>
  unfold Rp at rx;subst rx;cases qx
  cases dy with
  | dic _=>simp [pl] at py
  | scr _=>simp [pl] at py
  | non =>
   unfold Rp at ry;subst ry;cases qy
   exact SeqAt.RcAt.bool_none _
  | bl dy =>
   unfold Rp at ry;subst ry;cases qy
   exact SeqAt.RcAt.bool_bool _ _
  | int dy =>
   unfold Rp at ry;subst ry;obtain⟨t2,rfl⟩:=qy
   exact SeqAt.RcAt.bool_int _ _ _
  | str dy =>
   unfold Rp at ry;subst ry;obtain⟨t2,rfl⟩:=qy
   exact SeqAt.RcAt.bool_str _ _ _
  | tup dy =>
   unfold Rp at ry;obtain⟨a2,vs2,rfl,_,h2,rs2⟩:=ry;cases qy;obtain⟨its2,vr2,ht2,hz2⟩:=I.tuple (SqT.of h2)
   exact SeqAt.RcAt.bool_tuple _ ht2 hu0
  | lst dy =>
   unfold Rp at ry;obtain⟨a2,vs2,rfl,_,h2,rs2⟩:=ry;cases qy;obtain⟨its2,vr2,ht2,hz2⟩:=I.list (SqL.of h2);have ht2:=ht2.isList
   exact SeqAt.RcAt.bool_list _ ht2 hu0
 | int dx =>
  unfold Rp at rx;subst rx;obtain⟨t1,rfl⟩:=qx
  cases dy with
  | dic _=>simp [pl] at py
  | scr _=>simp [pl] at py
  | non =>
   unfold Rp at ry;subst ry;cases qy
   exact SeqAt.RcAt.int_none _ _
  | bl dy =>
   unfold Rp at ry;subst ry;cases qy
   exact SeqAt.RcAt.int_bool _ _ _
  | int dy =>
   unfold Rp at ry;subst ry;obtain⟨t2,rfl⟩:=qy
   exact SeqAt.RcAt.int_int _ _ _ _
  | str dy =>
   unfold Rp at ry;subst ry;obtain⟨t2,rfl⟩:=qy
   exact SeqAt.RcAt.int_str _ _ _ _
  | tup dy =>
   unfold Rp at ry;obtain⟨a2,vs2,rfl,_,h2,rs2⟩:=ry;cases qy;obtain⟨its2,vr2,ht2,hz2⟩:=I.tuple (SqT.of h2)
   exact SeqAt.RcAt.int_tuple _ _ ht2 hu0
  | lst dy =>
   unfold Rp at ry;obtain⟨a2,vs2,rfl,_,h2,rs2⟩:=ry;cases qy;obtain⟨its2,vr2,ht2,hz2⟩:=I.list (SqL.of h2);have ht2:=ht2.isList
   exact SeqAt.RcAt.int_list _ _ ht2 hu0
 | str dx =>
  unfold Rp at rx;subst rx;obtain⟨t1,rfl⟩:=qx
  cases dy with
  | dic _=>simp [pl] at py
  | scr _=>simp [pl] at py
  | non =>
   unfold Rp at ry;subst ry;cases qy
   exact SeqAt.RcAt.str_none _ _
  | bl dy =>
   unfold Rp at ry;subst ry;cases qy
   exact SeqAt.RcAt.str_bool _ _ _
  | int dy =>
   unfold Rp at ry;subst ry;obtain⟨t2,rfl⟩:=qy
   exact SeqAt.RcAt.str_int _ _ _ _
  | str dy =>
   unfold Rp at ry;subst ry;obtain⟨t2,rfl⟩:=qy
   exact SeqAt.RcAt.str_str _ _ _ _
  | tup dy =>
   unfold Rp at ry;obtain⟨a2,vs2,rfl,_,h2,rs2⟩:=ry;cases qy;obtain⟨its2,vr2,ht2,hz2⟩:=I.tuple (SqT.of h2)
   exact SeqAt.RcAt.str_tuple _ _ ht2 hu0
  | lst dy =>
   unfold Rp at ry;obtain⟨a2,vs2,rfl,_,h2,rs2⟩:=ry;cases qy;obtain⟨its2,vr2,ht2,hz2⟩:=I.list (SqL.of h2);have ht2:=ht2.isList
   exact SeqAt.RcAt.str_list _ _ ht2 hu0
 | tup dx =>
  cases n with
  | zero=>simp [pl] at px
  | succ n =>
  unfold Rp at rx;obtain⟨a1,vs1,rfl,_,h1,rs1⟩:=rx;cases qx;obtain⟨its1,vr1,ht1,hz1⟩:=I.tuple (SqT.of h1)
  cases dy with
  | dic _=>simp [pl] at py
  | scr _=>simp [pl] at py
  | non =>
   unfold Rp at ry;subst ry;cases qy
   exact SeqAt.RcAt.tuple_none ht1 hu0
  | bl dy =>
   unfold Rp at ry;subst ry;cases qy
   exact SeqAt.RcAt.tuple_bool _ ht1 hu0
  | int dy =>
   unfold Rp at ry;subst ry;obtain⟨t2,rfl⟩:=qy
   exact SeqAt.RcAt.tuple_int _ _ ht1 hu0
  | str dy =>
   unfold Rp at ry;subst ry;obtain⟨t2,rfl⟩:=qy
   exact SeqAt.RcAt.tuple_str _ _ ht1 hu0
  | tup dy =>
   cases m with
   | zero=>simp [pl] at py
   | succ m =>
   unfold Rp at ry;obtain⟨a2,vs2,rfl,_,h2,rs2⟩:=ry;cases qy;obtain⟨its2,vr2,ht2,hz2⟩:=I.tuple (SqT.of h2)
   rw [pl] at px py
   have l1:its1.length=dx.length:=by rw [<-vr1.length,rs1.length]
   have l2:its2.length=dy.length:=by rw [<-vr2.length,rs2.length]
   have el:∀ j (h1:j<its1.toArray.size) (h2:j<its2.toArray.size),SeqAt.EqAt A.in1 s its1.toArray[j] its2.toArray[j] (eqb (dx.getD j .non) (dy.getD j .non)):=λ j h1 h2=>by
    simp only [List.size_toArray] at h1 h2
    obtain⟨v1,p1,p2⟩:=Gi (X:=X) rs1 vr1 j h1
    obtain⟨v2,p3,p4⟩:=Gi (X:=X) rs2 vr2 j h2
    have:=Aac n m A.in1 (dx.getD j .non) (dy.getD j .non) v1 v2 _ _ I (by rw [units_in1];omega) (Ci px j) (Ci py j) p1 p3 p2 p4
    simpa using this
   rw [eqb]
   by_cases hl:dx.length=dy.length
   ·have main:=SeqAt.RcAt.tuples (A:=A) (e:=λ j=>eqb (dx.getD j .non) (dy.getD j .non)) ht1 ht2 hu0 el
    simp only [List.size_toArray,l1,l2,hl,Nat.min_self,beq_self_eq_true,Bool.and_true] at main
    rw [Dt hl,hl];exact main
   ·have main:=SeqAt.RcAt.tuples (A:=A) (e:=λ j=>eqb (dx.getD j .non) (dy.getD j .non)) ht1 ht2 hu0 el
    rw [Ge hl]
    simp only [List.size_toArray,l1,l2] at main
    rw [beq_eq_false_iff_ne.mpr hl,Bool.and_false] at main
    exact main
  | lst dy =>
   unfold Rp at ry;obtain⟨a2,vs2,rfl,_,h2,rs2⟩:=ry;cases qy;obtain⟨its2,vr2,ht2,hz2⟩:=I.list (SqL.of h2);have ht2:=ht2.isList
   exact SeqAt.RcAt.tuple_list ht1 ht2 hu0
 | lst dx =>
  cases n with
  | zero=>simp [pl] at px
  | succ n =>
  unfold Rp at rx;obtain⟨a1,vs1,rfl,_,h1,rs1⟩:=rx;cases qx;obtain⟨its1,vr1,ht1,hz1⟩:=I.list (SqL.of h1);have ht1:=ht1.isList
  cases dy with
  | dic _=>simp [pl] at py
  | scr _=>simp [pl] at py
  | non =>
   unfold Rp at ry;subst ry;cases qy
   exact SeqAt.RcAt.list_none ht1 hu0
  | bl dy =>
   unfold Rp at ry;subst ry;cases qy
   exact SeqAt.RcAt.list_bool _ ht1 hu0
  | int dy =>
   unfold Rp at ry;subst ry;obtain⟨t2,rfl⟩:=qy
   exact SeqAt.RcAt.list_int _ _ ht1 hu0
  | str dy =>
   unfold Rp at ry;subst ry;obtain⟨t2,rfl⟩:=qy
   exact SeqAt.RcAt.list_str _ _ ht1 hu0
  | tup dy =>
   unfold Rp at ry;obtain⟨a2,vs2,rfl,_,h2,rs2⟩:=ry;cases qy;obtain⟨its2,vr2,ht2,hz2⟩:=I.tuple (SqT.of h2)
   exact SeqAt.RcAt.list_tuple ht1 ht2 hu0
  | lst dy =>
   cases m with
   | zero=>simp [pl] at py
   | succ m =>
   unfold Rp at ry;obtain⟨a2,vs2,rfl,_,h2,rs2⟩:=ry;cases qy;obtain⟨its2,vr2,ht2,hz2⟩:=I.list (SqL.of h2);have ht2:=ht2.isList
   rw [pl] at px py
   have l1:its1.length=dx.length:=by rw [<-vr1.length,rs1.length]
   have l2:its2.length=dy.length:=by rw [<-vr2.length,rs2.length]
   have el:∀ j (h1:j<its1.toArray.size) (h2:j<its2.toArray.size),SeqAt.EqAt A.in1 s its1.toArray[j] its2.toArray[j] (eqb (dx.getD j .non) (dy.getD j .non)):=λ j h1 h2=>by
    simp only [List.size_toArray] at h1 h2
    obtain⟨v1,p1,p2⟩:=Gi (X:=X) rs1 vr1 j h1
    obtain⟨v2,p3,p4⟩:=Gi (X:=X) rs2 vr2 j h2
    have:=Aac n m A.in1 (dx.getD j .non) (dy.getD j .non) v1 v2 _ _ I (by rw [units_in1];omega) (Ci px j) (Ci py j) p1 p3 p2 p4
    simpa using this
   rw [eqb]
   by_cases hl:dx.length=dy.length
   ·have main:=SeqAt.RcAt.lists (A:=A) (e:=λ j=>eqb (dx.getD j .non) (dy.getD j .non)) ht1 ht2 (by simp [l1,l2,hl]) hu0 el
    simp only [List.size_toArray,l1] at main
    rw [Dt hl];exact main
   ·rw [Ge hl]
    exact SeqAt.RcAt.lists_lengths ht1 ht2 (by simp only [List.size_toArray,l1,l2];exact bne_iff_ne.mpr hl) hu0
theorem Aec (n m:Nat) (A:Around) (dx dy:D) (v w:V) (u u':Value) (I:Inv X pins σ H s) (hu:A.units+n<cLine) (px:pl n dx=true) (py:pl m dy=true) (rx:Rp X.K H O dx v) (ry:Rp X.K H O dy w) (qx:RelV v u) (qy:RelV w u'):SeqAt.RcNeAt A s u u' (!(eqb dx dy)):=by
 have hu0:A.units<cLine:=by omega
 cases dx with
 | dic _=>simp [pl] at px
 | scr _=>simp [pl] at px
 | non =>
  unfold Rp at rx;subst rx;cases qx
  cases dy with
  | dic _=>simp [pl] at py
  | scr _=>simp [pl] at py
  | non =>
   unfold Rp at ry;subst ry;cases qy
   exact SeqAt.RcNeAt.none_none
  | bl dy =>
   unfold Rp at ry;subst ry;cases qy
   exact SeqAt.RcNeAt.none_bool _
  | int dy =>
   unfold Rp at ry;subst ry;obtain⟨t2,rfl⟩:=qy
   exact SeqAt.RcNeAt.none_int _ _
  | str dy =>
   unfold Rp at ry;subst ry;obtain⟨t2,rfl⟩:=qy
   exact SeqAt.RcNeAt.none_str _ _
  | tup dy =>
   unfold Rp at ry;obtain⟨a2,vs2,rfl,_,h2,rs2⟩:=ry;cases qy;obtain⟨its2,vr2,ht2,hz2⟩:=I.tuple (SqT.of h2)
   exact SeqAt.RcNeAt.none_tuple ht2 hu0
  | lst dy =>
   unfold Rp at ry;obtain⟨a2,vs2,rfl,_,h2,rs2⟩:=ry;cases qy;obtain⟨its2,vr2,ht2,hz2⟩:=I.list (SqL.of h2);have ht2:=ht2.isList
   exact SeqAt.RcNeAt.none_list ht2 hu0
 | bl dx =>
  unfold Rp at rx;subst rx;cases qx
  cases dy with
  | dic _=>simp [pl] at py
  | scr _=>simp [pl] at py
  | non =>
   unfold Rp at ry;subst ry;cases qy
   exact SeqAt.RcNeAt.bool_none _
  | bl dy =>
   unfold Rp at ry;subst ry;cases qy
   exact SeqAt.RcNeAt.bool_bool _ _
  | int dy =>
   unfold Rp at ry;subst ry;obtain⟨t2,rfl⟩:=qy
   exact SeqAt.RcNeAt.bool_int _ _ _
  | str dy =>
   unfold Rp at ry;subst ry;obtain⟨t2,rfl⟩:=qy
   exact SeqAt.RcNeAt.bool_str _ _ _
  | tup dy =>
   unfold Rp at ry;obtain⟨a2,vs2,rfl,_,h2,rs2⟩:=ry;cases qy;obtain⟨its2,vr2,ht2,hz2⟩:=I.tuple (SqT.of h2)
   exact SeqAt.RcNeAt.bool_tuple _ ht2 hu0
  | lst dy =>
   unfold Rp at ry;obtain⟨a2,vs2,rfl,_,h2,rs2⟩:=ry;cases qy;obtain⟨its2,vr2,ht2,hz2⟩:=I.list (SqL.of h2);have ht2:=ht2.isList
   exact SeqAt.RcNeAt.bool_list _ ht2 hu0
 | int dx =>
  unfold Rp at rx;subst rx;obtain⟨t1,rfl⟩:=qx
  cases dy with
  | dic _=>simp [pl] at py
  | scr _=>simp [pl] at py
  | non =>
   unfold Rp at ry;subst ry;cases qy
   exact SeqAt.RcNeAt.int_none _ _
  | bl dy =>
   unfold Rp at ry;subst ry;cases qy
   exact SeqAt.RcNeAt.int_bool _ _ _
  | int dy =>
   unfold Rp at ry;subst ry;obtain⟨t2,rfl⟩:=qy
   exact SeqAt.RcNeAt.int_int _ _ _ _
  | str dy =>
   unfold Rp at ry;subst ry;obtain⟨t2,rfl⟩:=qy
   exact SeqAt.RcNeAt.int_str _ _ _ _
  | tup dy =>
   unfold Rp at ry;obtain⟨a2,vs2,rfl,_,h2,rs2⟩:=ry;cases qy;obtain⟨its2,vr2,ht2,hz2⟩:=I.tuple (SqT.of h2)
   exact SeqAt.RcNeAt.int_tuple _ _ ht2 hu0
  | lst dy =>
   unfold Rp at ry;obtain⟨a2,vs2,rfl,_,h2,rs2⟩:=ry;cases qy;obtain⟨its2,vr2,ht2,hz2⟩:=I.list (SqL.of h2);have ht2:=ht2.isList
   exact SeqAt.RcNeAt.int_list _ _ ht2 hu0
 | str dx =>
  unfold Rp at rx;subst rx;obtain⟨t1,rfl⟩:=qx
  cases dy with
  | dic _=>simp [pl] at py
  | scr _=>simp [pl] at py
  | non =>
   unfold Rp at ry;subst ry;cases qy
   exact SeqAt.RcNeAt.str_none _ _
  | bl dy =>
   unfold Rp at ry;subst ry;cases qy
   exact SeqAt.RcNeAt.str_bool _ _ _
  | int dy =>
   unfold Rp at ry;subst ry;obtain⟨t2,rfl⟩:=qy
   exact SeqAt.RcNeAt.str_int _ _ _ _
  | str dy =>
   unfold Rp at ry;subst ry;obtain⟨t2,rfl⟩:=qy
   exact SeqAt.RcNeAt.str_str _ _ _ _
  | tup dy =>
   unfold Rp at ry;obtain⟨a2,vs2,rfl,_,h2,rs2⟩:=ry;cases qy;obtain⟨its2,vr2,ht2,hz2⟩:=I.tuple (SqT.of h2)
   exact SeqAt.RcNeAt.str_tuple _ _ ht2 hu0
  | lst dy =>
   unfold Rp at ry;obtain⟨a2,vs2,rfl,_,h2,rs2⟩:=ry;cases qy;obtain⟨its2,vr2,ht2,hz2⟩:=I.list (SqL.of h2);have ht2:=ht2.isList
   exact SeqAt.RcNeAt.str_list _ _ ht2 hu0
 | tup dx =>
  cases n with
  | zero=>simp [pl] at px
  | succ n =>
  unfold Rp at rx;obtain⟨a1,vs1,rfl,_,h1,rs1⟩:=rx;cases qx;obtain⟨its1,vr1,ht1,hz1⟩:=I.tuple (SqT.of h1)
  cases dy with
  | dic _=>simp [pl] at py
  | scr _=>simp [pl] at py
  | non =>
   unfold Rp at ry;subst ry;cases qy
   exact SeqAt.RcNeAt.tuple_none ht1 hu0
  | bl dy =>
   unfold Rp at ry;subst ry;cases qy
   exact SeqAt.RcNeAt.tuple_bool _ ht1 hu0
  | int dy =>
   unfold Rp at ry;subst ry;obtain⟨t2,rfl⟩:=qy
   exact SeqAt.RcNeAt.tuple_int _ _ ht1 hu0
  | str dy =>
   unfold Rp at ry;subst ry;obtain⟨t2,rfl⟩:=qy
   exact SeqAt.RcNeAt.tuple_str _ _ ht1 hu0
  | tup dy =>
   cases m with
   | zero=>simp [pl] at py
   | succ m =>
   unfold Rp at ry;obtain⟨a2,vs2,rfl,_,h2,rs2⟩:=ry;cases qy;obtain⟨its2,vr2,ht2,hz2⟩:=I.tuple (SqT.of h2)
   rw [pl] at px py
   have l1:its1.length=dx.length:=by rw [<-vr1.length,rs1.length]
   have l2:its2.length=dy.length:=by rw [<-vr2.length,rs2.length]
   have el:∀ j (h1:j<its1.toArray.size) (h2:j<its2.toArray.size),SeqAt.EqAt A.in1 s its1.toArray[j] its2.toArray[j] (eqb (dx.getD j .non) (dy.getD j .non)):=λ j h1 h2=>by
    simp only [List.size_toArray] at h1 h2
    obtain⟨v1,p1,p2⟩:=Gi (X:=X) rs1 vr1 j h1
    obtain⟨v2,p3,p4⟩:=Gi (X:=X) rs2 vr2 j h2
    have:=Aac n m A.in1 (dx.getD j .non) (dy.getD j .non) v1 v2 _ _ I (by rw [units_in1];omega) (Ci px j) (Ci py j) p1 p3 p2 p4
    simpa using this
   rw [eqb]
   by_cases hl:dx.length=dy.length
   ·have main:=SeqAt.RcNeAt.tuples (A:=A) (e:=λ j=>eqb (dx.getD j .non) (dy.getD j .non)) ht1 ht2 hu0 el
    simp only [List.size_toArray,l1,l2,hl,Nat.min_self,beq_self_eq_true,Bool.and_true] at main
    rw [Dt hl,hl];exact main
   ·have main:=SeqAt.RcNeAt.tuples (A:=A) (e:=λ j=>eqb (dx.getD j .non) (dy.getD j .non)) ht1 ht2 hu0 el
    rw [Ge hl]
    simp only [List.size_toArray,l1,l2] at main
    rw [beq_eq_false_iff_ne.mpr hl,Bool.and_false] at main
    exact main
  | lst dy =>
   unfold Rp at ry;obtain⟨a2,vs2,rfl,_,h2,rs2⟩:=ry;cases qy;obtain⟨its2,vr2,ht2,hz2⟩:=I.list (SqL.of h2);have ht2:=ht2.isList
   exact SeqAt.RcNeAt.tuple_list ht1 ht2 hu0
 | lst dx =>
  cases n with
  | zero=>simp [pl] at px
  | succ n =>
  unfold Rp at rx;obtain⟨a1,vs1,rfl,_,h1,rs1⟩:=rx;cases qx;obtain⟨its1,vr1,ht1,hz1⟩:=I.list (SqL.of h1);have ht1:=ht1.isList
  cases dy with
  | dic _=>simp [pl] at py
  | scr _=>simp [pl] at py
  | non =>
   unfold Rp at ry;subst ry;cases qy
   exact SeqAt.RcNeAt.list_none ht1 hu0
  | bl dy =>
   unfold Rp at ry;subst ry;cases qy
   exact SeqAt.RcNeAt.list_bool _ ht1 hu0
  | int dy =>
   unfold Rp at ry;subst ry;obtain⟨t2,rfl⟩:=qy
   exact SeqAt.RcNeAt.list_int _ _ ht1 hu0
  | str dy =>
   unfold Rp at ry;subst ry;obtain⟨t2,rfl⟩:=qy
   exact SeqAt.RcNeAt.list_str _ _ ht1 hu0
  | tup dy =>
   unfold Rp at ry;obtain⟨a2,vs2,rfl,_,h2,rs2⟩:=ry;cases qy;obtain⟨its2,vr2,ht2,hz2⟩:=I.tuple (SqT.of h2)
   exact SeqAt.RcNeAt.list_tuple ht1 ht2 hu0
  | lst dy =>
   cases m with
   | zero=>simp [pl] at py
   | succ m =>
   unfold Rp at ry;obtain⟨a2,vs2,rfl,_,h2,rs2⟩:=ry;cases qy;obtain⟨its2,vr2,ht2,hz2⟩:=I.list (SqL.of h2);have ht2:=ht2.isList
   rw [pl] at px py
   have l1:its1.length=dx.length:=by rw [<-vr1.length,rs1.length]
   have l2:its2.length=dy.length:=by rw [<-vr2.length,rs2.length]
   have el:∀ j (h1:j<its1.toArray.size) (h2:j<its2.toArray.size),SeqAt.EqAt A.in1 s its1.toArray[j] its2.toArray[j] (eqb (dx.getD j .non) (dy.getD j .non)):=λ j h1 h2=>by
    simp only [List.size_toArray] at h1 h2
    obtain⟨v1,p1,p2⟩:=Gi (X:=X) rs1 vr1 j h1
    obtain⟨v2,p3,p4⟩:=Gi (X:=X) rs2 vr2 j h2
    have:=Aac n m A.in1 (dx.getD j .non) (dy.getD j .non) v1 v2 _ _ I (by rw [units_in1];omega) (Ci px j) (Ci py j) p1 p3 p2 p4
    simpa using this
   rw [eqb]
   by_cases hl:dx.length=dy.length
   ·have main:=SeqAt.RcNeAt.lists (A:=A) (e:=λ j=>eqb (dx.getD j .non) (dy.getD j .non)) ht1 ht2 (by simp [l1,l2,hl]) hu0 el
    simp only [List.size_toArray,l1] at main
    rw [Dt hl];exact main
   ·rw [Ge hl]
    exact SeqAt.RcNeAt.lists_lengths ht1 ht2 (by simp only [List.size_toArray,l1,l2];exact bne_iff_ne.mpr hl) hu0
end

section
variable {X:Cx}{G:Fc}
noncomputable def Aj6 (K:PySem.W.Frag) (neg:Bool):R2:=λ x y H Q=>∃ dx dy,pl 4 dx=true/\pl 4 dy=true/\Rp K H NoO dx x/\Rp K H NoO dy y/\Q (.bl (if neg=true then !(eqb dx dy) else eqb dx dy)) H
theorem Adf (hu:X.A.units+4<cLine):OpR X (compareOp .Eq) (Aj6 X.K false):=by
 intro pins s σ H x y v u Q I rx ry h
 obtain⟨dx,dy,px,py,qx,qy,q⟩:=h
 exact Ak0 (O:=NoO) 4 4 X.A dx dy x y v u I hu px py qx qy rx ry _ _ _ _ (U4 I q rfl)
theorem Ads (hu:X.A.units+4<cLine):OpR X (compareOp .NotEq) (Aj6 X.K true):=by
 intro pins s σ H x y v u Q I rx ry h
 obtain⟨dx,dy,px,py,qx,qy,q⟩:=h
 exact Aec (O:=NoO) 4 4 X.A dx dy x y v u I hu px py qx qy rx ry _ _ _ _ (U4 I q rfl)
noncomputable def fEq (dx dy:D):Option D:=if pl 4 dx && pl 4 dy then some (.bl (eqb dx dy)) else none
noncomputable def fNe (dx dy:D):Option D:=if pl 4 dx && pl 4 dy then some (.bl (!(eqb dx dy))) else none
theorem Aic {K:PySem.W.Frag}:OpD K (Aj6 K false) fEq:=λ H O dx dy d v w Q fr e rx ry q=>by
 unfold fEq at e
 split at e
 ·rename_i h
  rw [Bool.and_eq_true] at h
  cases e
  exact⟨dx,dy,h.1,h.2,rx.any h.1,ry.any h.2,q _ H (Same.refl _) rfl⟩
 ·cases e
theorem Ai6 {K:PySem.W.Frag}:OpD K (Aj6 K true) fNe:=λ H O dx dy d v w Q fr e rx ry q=>by
 unfold fNe at e
 split at e
 ·rename_i h
  rw [Bool.and_eq_true] at h
  cases e
  exact⟨dx,dy,h.1,h.2,rx.any h.1,ry.any h.2,q _ H (Same.refl _) rfl⟩
 ·cases e
end
end M

set_option Elab.async false
set_option linter.all false
set_option maxRecDepth 100000
namespace M
open PySem PySem.Spec PyProof.Rows L2

noncomputable def Cg:D->D->Option D
 | .int i,.int j=>some (.int (i+j))
 | .lst a,.lst b=>if a.length+b.length<=1000000 then some (.lst (a++b)) else none
 | .str a,.str b=>if a.length+b.length<=1000000 then some (.str (a++b)) else none
 | _,_=>none
noncomputable def Zk:D->D->Option D
 | .int i,.int j=>some (.int (i-j))
 | _,_=>none
noncomputable def Ags:D->D->Option D
 | .int i,.int j=>if i.natAbs<2 ^ 63\/j.natAbs<2 ^ 63 then some (.int (i * j)) else none
 | _,_=>none
noncomputable def T8:D->D->Option D
 | .int i,.int j=>if 0<j/\j<1073741824 then some (.int (i / j)) else none
 | _,_=>none
noncomputable def Kd:D->D->Option D
 | .int i,.int j=>if 0<j then some (.int (i % j)) else none
 | _,_=>none
section
variable {K:PySem.W.Frag}
theorem Y4 {C:Int->Int->Prop}{g:Int->Int->D}{gv:Int->Int->V}{f:D->D->Option D}(hf:∀ dx dy d,f dx dy=some d->∃ i j,dx=.int i/\dy=.int j/\C i j/\d=g i j) (hg:∀ i j H O,Rp K H O (g i j) (gv i j)) :
  OpD K (rI C gv) f:=λ H O dx dy d v w Q fr e rx ry q=>by
 obtain⟨i,j,rfl,rfl,c,rfl⟩:=hf _ _ _ e
 exact⟨i,j,rx.int,ry.int,c,q _ H (Same.refl _) (hg i j H O)⟩
theorem Lr {g:Int->Int->D}{gv:Int->Int->V}{f:D->D->Option D}(hf:∀ dx dy d,f dx dy=some d->∃ i j,dx=.int i/\dy=.int j/\d=g i j) (hg:∀ i j H O,Rp K H O (g i j) (gv i j)) :
  OpD K (rI0 gv) f:=λ H O dx dy d v w Q fr e rx ry q=>by
 obtain⟨i,j,rfl,rfl,rfl⟩:=hf _ _ _ e
 exact⟨i,j,rx.int,ry.int,q _ H (Same.refl _) (hg i j H O)⟩
theorem Ajd:OpD K (rI0 λ i j=>.int (i-j)) Zk:=Lr (g:=λ i j=>.int (i-j)) (λ dx dy d e=>by
 cases dx<;>cases dy<;>simp [Zk] at e
 exact⟨_,_,rfl,rfl,e.symm⟩) λ _ _ _ _=>by unfold Rp;rfl
theorem Ag9:OpD K (rI Aio λ i j=>.int (i * j)) Ags:=Y4 (g:=λ i j=>.int (i * j)) (λ dx dy d e=>by
 cases dx<;>cases dy<;>simp [Ags] at e
 obtain⟨c,e⟩:=e
 refine⟨_,_,rfl,rfl,?_,e.symm⟩
 unfold Aio
 omega (config:={})) λ _ _ _ _=>by unfold Rp;rfl
theorem Ajj:OpD K (rI Aph λ i j=>.int (i / j)) T8:=Y4 (g:=λ i j=>.int (i / j)) (λ dx dy d e=>by
 cases dx<;>cases dy<;>simp [T8] at e
 obtain⟨c,e⟩:=e
 exact⟨_,_,rfl,rfl,c,e.symm⟩) λ _ _ _ _=>by unfold Rp;rfl
theorem Aje:OpD K (rI (λ _ j=>0<j) λ i j=>.int (i % j)) Kd:=Y4 (g:=λ i j=>.int (i % j)) (λ dx dy d e=>by
 cases dx<;>cases dy<;>simp [Kd] at e
 obtain⟨c,e⟩:=e
 exact⟨_,_,rfl,rfl,c,e.symm⟩) λ _ _ _ _=>by unfold Rp;rfl
noncomputable def Ajq:R2:=λ x y H Q=>(rI0 λ i j=>.int (i+j)) x y H Q\/Ann x y H Q\/(∃ i j,x=.str i/\y=.str j/\i.length+j.length<=sizeLine/\Q (.str (i++j)) H)
theorem Ago {X:Cx}:OpR X (binaryOp .Add) Ajq:=Ah6.or (Ajo.or Ws)
theorem Ajs:OpD K Ajq Cg:=λ H O dx dy d v w Q fr e rx ry q=>by
 cases dx with
 | int i =>
  cases dy<;>simp [Cg] at e
  exact .inl ⟨_,_,rx.int,ry.int,q _ H (Same.refl _) (by rw [<-e];unfold Rp;rfl)⟩
 | str i =>
  cases dy<;>simp [Cg] at e
  obtain⟨c,e⟩:=e
  exact .inr (.inr ⟨_,_,rx.str,ry.str,by rw [sizeLine_eq];omega,q _ H (Same.refl _) (by rw [<-e];unfold Rp;rfl)⟩)
 | lst a =>
  cases dy<;>simp [Cg] at e
  obtain⟨c,e⟩:=e
  obtain⟨l,xs,rfl,h1,r1⟩:=rx.lst
  obtain⟨l',ys,rfl,h2,r2⟩:=ry.lst
  refine .inr (.inl ⟨l,l',xs,ys,rfl,rfl,h1,h2,by rw [r1.length,r2.length,sizeLine_eq];omega,λ p hp=>q _ _ (Ar hp) ?_⟩)
  subst e
  unfold Rp
  exact⟨p,_,rfl,fr.fr hp,Aq,(r1.append r2).mono (Ar hp) λ _ z=>z⟩
 | _=>cases dy<;>simp [Cg] at e
noncomputable def As5:D->D->Option D
 | .lst a,.lst b=>if a.length+b.length<=1000000 then some (.lst (a++b)) else none
 | _,_=>none

noncomputable def Fj:List D->Option (List Int)
 | []=>some []
 | .int i :: r=>(Fj r).map (i :: ·)
 | _ :: _=>none
theorem Gz:∀ {ds:List D}{ns:List Int},Fj ds=some ns->ds=ns.map D.int
 | [],ns,h=>by simp [Fj] at h;subst h;rfl
 | .int i :: r,ns,h=>by
  simp only [Fj,Option.map_eq_some_iff] at h
  obtain⟨ms,h1,rfl⟩:=h
  rw [Gz h1];rfl
 | .non :: r,ns,h=>by simp [Fj] at h
 | .bl _ :: r,ns,h=>by simp [Fj] at h
 | .str _ :: r,ns,h=>by simp [Fj] at h
 | .tup _ :: r,ns,h=>by simp [Fj] at h
 | .lst _ :: r,ns,h=>by simp [Fj] at h
 | .dic _ :: r,ns,h=>by simp [Fj] at h
 | .scr _ :: r,ns,h=>by simp [Fj] at h
@[simp] theorem ints_map:∀ ns:List Int,Fj (ns.map D.int)=some ns
 | []=>rfl
 | n :: ns=>by simp [Fj,ints_map ns]
theorem Rps.ints {H:Hp}{O:Addr->Prop}:∀ {ns:List Int}{vs:List V},Rps K H O (ns.map D.int) vs->vs=ns.map V.int
 | [],vs,h=>by unfold Rps at h;exact h
 | n :: ns,vs,h=>by
  unfold Rps at h
  obtain⟨v,r,rfl,p,q⟩:=h
  unfold Rp at p
  rw [p,Rps.ints q];rfl
theorem Hr {H:Hp}{O:Addr->Prop}:∀ (ns:List Int),Rps K H O (ns.map D.int) (ns.map V.int)
 | []=>Rps.nil
 | n :: ns=>Rps.cons (by unfold Rp;rfl) (Hr ns)
noncomputable def fLt:D->D->Option D
 | .int i,.int j=>some (.bl (decide (i<j)))
 | .tup a,.tup b=>do let x ← Fj a;let y ← Fj b;pure (.bl (HT.lexLt x y))
 | _,_=>none
noncomputable def fLe:D->D->Option D
 | .int i,.int j=>some (.bl (decide (i<=j)))
 | _,_=>none
noncomputable def fGt:D->D->Option D
 | .int i,.int j=>some (.bl (decide (j<i)))
 | _,_=>none
noncomputable def fGe:D->D->Option D
 | .int i,.int j=>some (.bl (decide (j<=i)))
 | .tup a,.tup b=>do let x ← Fj a;let y ← Fj b;pure (.bl (!(HT.lexLt x y)))
 | _,_=>none
noncomputable def Apa (K:PySem.W.Frag):R2:=λ x y H Q=>(rI0 λ i j=>.bl (decide (i<j))) x y H Q\/Aos K x y H Q
theorem Adx {X:Cx}(hu:X.A.units<cLine):OpR X (compareOp .Lt) (Apa X.K):=Afd.or (Aii hu)
theorem Aj4:OpD K (Apa K) fLt:=λ H O dx dy d v w Q fr e rx ry q=>by
 cases dx with
 | int i =>
  cases dy<;>simp [fLt] at e
  exact .inl ⟨_,_,rx.int,ry.int,q _ H (Same.refl _) (by rw [<-e];unfold Rp;rfl)⟩
 | tup a =>
  cases dy<;>simp [fLt,Option.bind_eq_some_iff] at e
  obtain⟨ns,e1,ms,e2,e⟩:=e
  obtain⟨l,xs,rfl,h1,r1⟩:=rx.tup
  obtain⟨l',ys,rfl,h2,r2⟩:=ry.tup
  rw [Gz e1] at r1
  rw [Gz e2] at r2
  exact .inr ⟨l,l',ns,ms,rfl,rfl,SqT.of (by rw [<-r1.ints];exact h1),SqT.of (by rw [<-r2.ints];exact h2),q _ H (Same.refl _) (by rw [<-e];unfold Rp;rfl)⟩
 | _=>cases dy<;>simp [fLt] at e
theorem Al7:OpD K (rI0 λ i j=>.bl (decide (i<=j))) fLe:=Lr (g:=λ i j=>.bl (decide (i<=j))) (λ dx dy d e=>by
 cases dx<;>cases dy<;>simp [fLe] at e
 exact⟨_,_,rfl,rfl,e.symm⟩) λ _ _ _ _=>by unfold Rp;rfl
theorem Aly:OpD K (rI0 λ i j=>.bl (decide (j<i))) fGt:=Lr (g:=λ i j=>.bl (decide (j<i))) (λ dx dy d e=>by
 cases dx<;>cases dy<;>simp [fGt] at e
 exact⟨_,_,rfl,rfl,e.symm⟩) λ _ _ _ _=>by unfold Rp;rfl
end

section
open PySem.SeqAt
open PySem.AutoSeq1 (wpAny_loadPart')
open PySem.MeetsSeq PySem.MeetsSeq2 PySem.MeetsSeq3
end
section
variable {X:Cx}{K:PySem.W.Frag}
end
end M

set_option Elab.async false
set_option linter.all false
set_option maxRecDepth 100000
namespace M
open PySem PySem.Spec PyProof.Rows L2

theorem R0 {n:Nat}{ds:List D}(h:pls n ds=true) {j:Nat}{d:D}(e:ds[j]?=some d):pl n d=true:=by
 have:=Ci h j
 rw [List.getD_eq_getElem?_getD,e] at this
 exact this
section
variable {X:Cx}{pins:List (Addr × Obj)}{σ:St}{H:Hp}{s:Shared}
theorem Ac4 {A:Around}{dx:D}{ds:List D}{x:V}{u:Value}{vs:List V}{its:List Value}(I:Inv X pins σ H s) (hu:A.units+4<cLine) (px:pl 3 dx=true) (ps:pls 3 ds=true) (rx:Rp X.K H NoO dx x) (qx:RelV x u) (rs:Rps X.K H NoO ds vs) (qs:Vals vs its) :
  ∃ e:Value->Bool,(∀ y,y∈its.toArray->SeqAt.EqAt A.in1 s y u (e y))/\its.toArray.any e=ds.any λ y=>eqb y dx:=by
 classical
 have l:its.length=ds.length:=by rw [<-qs.length,rs.length]
 have at':∀ (j:Nat) (y:Value),its[j]?=some y->∃ v d,vs[j]?=some v/\ds[j]?=some d/\RelV v y/\Rp X.K H NoO d v:=λ j y e=>by
  have hj:j<its.length:=(List.getElem?_eq_some_iff.mp e).1
  have h2:j<ds.length:=by omega (config:={})
  obtain⟨v,e1,p⟩:=rs.get (i:=j) (d:=ds[j]) (by simp [h2])
  obtain⟨z,e2,p2⟩:=qs.get e1
  rw [e] at e2;cases e2
  exact⟨v,_,e1,by simp [h2],p2,p⟩
 have same:∀ (j j':Nat) (y:Value) (d d':D),its[j]?=some y->its[j']?=some y->ds[j]?=some d->ds[j']?=some d'->d=d':=λ j j' y d d' e e' h h'=>by
  obtain⟨v,d1,_,h1,q1,r1⟩:=at' j y e
  obtain⟨v',d2,_,h2,q2,r2⟩:=at' j' y e'
  rw [h] at h1;cases h1
  rw [h'] at h2;cases h2
  cases q1.inj q2
  exact r1.inj (R0 ps h) (R0 ps h') r2
 let e:Value->Bool:=λ y=>decide (∃ (j:Nat) (d:D),its[j]?=some y/\ds[j]?=some d/\eqb d dx=true)
 have ee:∀ (j:Nat) (y:Value) (d:D),its[j]?=some y->ds[j]?=some d->e y=eqb d dx:=λ j y d h1 h2=>by
  cases q:eqb d dx with
  | true=>exact decide_eq_true ⟨j,d,h1,h2,q⟩
  | false =>
   refine decide_eq_false ?_
   rintro⟨j',d',h1',h2',q'⟩
   rw [same j j' y d d' h1 h1' h2 h2',q'] at q;cases q
 refine⟨e,λ y hy=>?_,?_⟩
 ·have hy:y∈its:=by simpa using hy
  obtain⟨j,hj⟩:=List.getElem?_of_mem hy
  obtain⟨v,d,h1,h2,q1,r1⟩:=at' j y hj
  rw [ee j y d hj h2]
  exact Aac (O:=NoO) 3 3 A.in1 d dx v x y u I (by rw [units_in1];omega (config:={})) (R0 ps h2) px r1 rx q1 qx
 ·rw [List.any_toArray,Bool.eq_iff_iff,List.any_eq_true,List.any_eq_true]
  constructor
  ·rintro⟨y,hy,q⟩
   obtain⟨j,hj⟩:=List.getElem?_of_mem hy
   obtain⟨v,d,h1,h2,q1,r1⟩:=at' j y hj
   rw [ee j y d hj h2] at q
   exact⟨d,List.mem_of_getElem? h2,q⟩
  ·rintro⟨d,hd,q⟩
   obtain⟨j,hj⟩:=List.getElem?_of_mem hd
   have h2:j<its.length:=by rw [l];exact (List.getElem?_eq_some_iff.mp hj).1
   refine⟨its[j],List.getElem_mem h2,?_⟩
   rw [ee j _ d (by simp [h2]) hj];exact q
end
noncomputable def Ang (K:PySem.W.Frag) (neg:Bool):R2:=λ x y H Q=>∃ dx ds p vs,pl 3 dx=true/\pls 3 ds=true/\y=.ref p/\Rp K H NoO dx x/\(H p=some (.lst vs)\/H p=some (.tup vs))/\Rps K H NoO ds vs ∧
 Q (.bl (if neg=true then !(ds.any λ y=>eqb y dx) else ds.any λ y=>eqb y dx)) H
section
variable {X:Cx}{K:PySem.W.Frag}
theorem Ai9 (hu:X.A.units+4<cLine):OpR X (compareOp .In) (Ang X.K false):=by
 intro pins s σ H x y v u Q I rx ry h
 obtain⟨dx,ds,p,vs,px,ps,rfl,qx,h2,rs,q⟩:=h
 cases ry
 rcases h2 with h2|h2
 ·obtain⟨its,vr,ht,hz⟩:=I.list (SqL.of h2)
  obtain⟨e,he,ha⟩:=Ac4 (A:=X.A) I hu px ps qx rx rs vr
  exact SeqAt.in_listAt e ht.isList he (by rw [ha];exact U4 I q rfl)
 ·obtain⟨its,vr,ht,hz⟩:=I.tuple (SqT.of h2)
  obtain⟨e,he,ha⟩:=Ac4 (A:=X.A) I hu px ps qx rx rs vr
  exact SeqAt.in_tupleAt e ht he (by rw [ha];exact U4 I q rfl)
noncomputable def fIn:D->D->Option D
 | x,.lst ds=>if pl 3 x && pls 3 ds then some (.bl (ds.any λ y=>eqb y x)) else none
 | x,.tup ds=>if pl 3 x && pls 3 ds then some (.bl (ds.any λ y=>eqb y x)) else none
 | _,_=>none
noncomputable def Z2:D->D->Option D
 | x,.lst ds=>if pl 3 x && pls 3 ds then some (.bl (!(ds.any λ y=>eqb y x))) else none
 | x,.tup ds=>if pl 3 x && pls 3 ds then some (.bl (!(ds.any λ y=>eqb y x))) else none
 | _,_=>none
theorem Ak3:OpD K (Ang K false) fIn:=λ H O dx dy d v w Q fr e rx ry q=>by
 unfold fIn at e
 split at e
 ·split at e
  ·rename_i h
   rw [Bool.and_eq_true] at h
   cases e
   obtain⟨p,vs,rfl,h1,r1⟩:=ry.lst
   exact⟨dx,_,p,vs,h.1,h.2,rfl,rx.any h.1,.inl h1,r1.mono (Same.refl _) λ _ z=>z.elim,q _ H (Same.refl _) rfl⟩
  ·cases e
 ·split at e
  ·rename_i h
   rw [Bool.and_eq_true] at h
   cases e
   obtain⟨p,vs,rfl,h1,r1⟩:=ry.tup
   exact⟨dx,_,p,vs,h.1,h.2,rfl,rx.any h.1,.inr h1,r1.mono (Same.refl _) λ _ z=>z.elim,q _ H (Same.refl _) rfl⟩
  ·cases e
 ·cases e

noncomputable def fIx:D->D->Option D
 | .lst ds,.int i=>atI ds i
 | .tup ds,.int i=>atI ds i
 | .scr ns,.int i=>(atI ns i).map .int
 | .str z,.int i=>if z.length<=1000000 then (atI z.cps.toList i).map λ c=>.str ⟨#[c]⟩ else none
 | _,_=>none
theorem W3 {H:Hp}{O:Addr->Prop}{ds:List D}{vs:List V}{i:Int}{d:D}(r:Rps K H O ds vs) (h:atI ds i=some d):∃ v,atI vs i=some v/\Rp K H O d v:=by
 unfold atI at h ⊢
 rw [<-r.length] at h
 cases e:ixN vs.length i with
 | none=>rw [e] at h;cases h
 | some j =>
  rw [e] at h
  exact r.get h
theorem Alc:OpD K (rIx K) fIx:=λ H O dx dy d v w Q fr e rx ry q=>by
 cases dx with
 | lst ds =>
  cases dy<;>simp [fIx] at e
  obtain⟨p,vs,rfl,h1,r1⟩:=rx.lst
  obtain⟨v,e1,p1⟩:=W3 r1 e
  exact .inl ⟨p,vs,_,v,rfl,ry.int,SqL.of h1,e1,q _ H (Same.refl _) p1⟩
 | tup ds =>
  cases dy<;>simp [fIx] at e
  obtain⟨p,vs,rfl,h1,r1⟩:=rx.tup
  obtain⟨v,e1,p1⟩:=W3 r1 e
  exact .inr (.inl ⟨p,vs,_,v,rfl,ry.int,SqT.of h1,e1,q _ H (Same.refl _) p1⟩)
 | scr ns =>
  cases dy<;>simp [fIx] at e
  obtain⟨n,e,rfl⟩:=e
  rcases rx with rx|⟨a,_,h⟩
  ·obtain⟨p,rfl,h1⟩:=rx.scr
   refine .inl ⟨p,_,_,.int n,rfl,ry.int,h1,?_,q _ H (Same.refl _) (by unfold Rp;rfl)⟩
   unfold atI at e ⊢
   rw [List.length_map]
   cases e':ixN ns.length _ with
   | none=>rw [e'] at e;cases e
   | some j =>
    rw [e'] at e
    simp only [Option.bind_some] at e ⊢
    rw [List.getElem?_map,e];rfl
  ·exact h.elim
 | str z =>
  cases dy<;>simp [fIx] at e
  obtain⟨hz,c,e,rfl⟩:=e
  exact .inr (.inr ⟨z,_,c,rx.str,ry.int,by rw [sizeLine_eq];omega,e,q _ H (Same.refl _) (by unfold Rp;rfl)⟩)
 | _=>cases dy<;>simp [fIx] at e
end

noncomputable def cutD {α:Type}(xs:List α) (lo hi:Option Int):List α:=(xs.drop (HT.sIx xs.length 0 lo)).take (HT.sIx xs.length xs.length hi-HT.sIx xs.length 0 lo)
noncomputable def Eh (m:EV):Ev->R (Option Int):=λ E=>m E >>= λ d=>match d with
 | .int i=>.ok (some i)
 | _=>.no
noncomputable def Ei:Ev->R (Option Int):=λ _=>.ok none
noncomputable def fSl:D->Option Int->Option Int->Option D
 | .lst ds,lo,hi=>some (.lst (cutD ds lo hi))
 | .tup ds,lo,hi=>if HT.sIx ds.length 0 lo=0/\HT.sIx ds.length ds.length hi=ds.length then none else some (.tup (cutD ds lo hi))
 | _,_,_=>none
noncomputable def eSl (a:EV) (lo hi:Ev->R (Option Int)):EV:=λ E=>a E >>= λ x=>lo E >>= λ l=>hi E >>= λ h=>ofO (fSl x l h)
section
variable {X:Cx}{G:Fc}
noncomputable def SO (X:Cx) (G:Fc) (e:Option Expr) (m:Ev->R (Option Int)):Prop :=
 PO X e λ σ H Q=>∃ E,Rel X.K G E σ H/\Fin (m E) (λ o=>∀ H',Same H H'->Q o H') G.xc
theorem _root_.L2.PO.imp {X:Cx}{e:Option Expr}{t t':TO}(h:PO X e t) (i:∀ σ H Q,t' σ H Q->t σ H Q):PO X e t':=λ pins s σ H Q I q=>h pins s σ H Q I (i σ H Q q)
theorem Cw:SO X G none Ei:=Afx.imp λ σ H Q z0=>z0.elim λ E z0=>z0.elim λ hr f=>f H (Same.refl _)
theorem Cr {e:Expr}{m:EV}(h:SE X G e m):SO X G (some e) (Eh m):=(Aej h).imp λ σ H Q z0=>z0.elim λ E z0=>z0.elim λ hr f=>⟨E,hr,(Fin.bind f).mono λ d p v H' s z=>by
 cases d with
 | int i=>exact⟨i,z.int,p H' s⟩
 | _=>exact p.elim⟩
theorem W4 {K:PySem.W.Frag}{H:Hp}{O:Addr->Prop}{ds:List D}{vs:List V}(r:Rps K H O ds vs) (lo hi:Option Int):Rps K H O (cutD ds lo hi) (Adc vs lo hi):=by
 unfold cutD Adc
 rw [r.length]
 exact (r.drop _).take _
theorem Du {e:Expr}{lo hi:Option Expr}{p2 pos:Pos}{m:EV}{ml mh:Ev->R (Option Int)}(he:SE X G e m) (hl:SO X G lo ml) (hh:SO X G hi mh):SF X G (.Subscript e (.Slice lo hi none p2) pos) (eSl m ml mh) :=
 (Ul (SlR.or Ad7 Ajw) he hl hh).imp λ σ H Q z0=>z0.elim λ E z0=>z0.elim λ hr f=>⟨E,hr,(Fin.bind f).mono λ d p v H1 s1 z1=>⟨E,hr.same s1,(Fin.bind p).mono λ l p H2 s2=>⟨E,hr.same (s1.trans s2),(Fin.bind p).mono λ h p H3 s3=>by
  obtain⟨d',e',p⟩:=Fin.of p
  have z:=z1.mono (s2.trans s3) λ _ z=>z
  have fr:∀ a,H3 a=none->¬ Ow G.pr E σ a:=λ a ha=>(hr.same (s1.trans (s2.trans s3))).fresh ha
  cases d with
  | lst ds =>
   cases e'
   obtain⟨a,vs,rfl,h1,r1⟩:=z.lst
   refine .inl ⟨a,vs,rfl,SqL.of h1,λ q hq=>p _ _ (s1.trans (s2.trans (s3.trans (Ar hq)))) ?_⟩
   unfold Rp
   exact⟨q,_,rfl,fr q hq,Aq,(W4 r1 _ _).mono (Ar hq) λ _ z=>z⟩
  | tup ds =>
   simp only [fSl] at e'
   split at e'
   ·cases e'
   ·rename_i hn
    cases e'
    obtain⟨a,vs,rfl,h1,r1⟩:=z.tup
    refine .inr ⟨a,vs,rfl,SqT.of h1,by rw [r1.length];exact hn,λ q hq=>p _ _ (s1.trans (s2.trans (s3.trans (Ar hq)))) ?_⟩
    unfold Rp
    exact⟨q,_,rfl,fr q hq,Aq,(W4 r1 _ _).mono (Ar hq) λ _ z=>z⟩
  | _=>cases e'⟩⟩⟩
end

noncomputable def Mh:List (List Int × D)->List Int->Option D
 | [],_=>none
 | (k,d) :: r,j=>if k=j then some d else Mh r j
noncomputable def dput (kvs:List (List Int × D)) (k:List Int) (v:D):List (List Int × D) :=
 if kvs.any (λ kv=>decide (kv.1=k))=true then kvs.map (λ kv=>if kv.1=k then (kv.1,v) else kv) else kvs++[(k,v)]
noncomputable def keyOf:D->Option (List Int)
 | .tup ds=>Fj ds
 | _=>none
noncomputable def Acv:D->D->Option D
 | .dic kvs,k=>(keyOf k).bind (Mh kvs)
 | _,_=>none
noncomputable def Ae5:D->D->Option D
 | k,.dic kvs=>(keyOf k).map λ k=>.bl (Mh kvs k).isSome
 | _,_=>none
noncomputable def Gp:D->D->Option D
 | k,.dic kvs=>(keyOf k).map λ k=>.bl (!(Mh kvs k).isSome)
 | _,_=>none
section
variable {K:PySem.W.Frag}{H:Hp}{O:Addr->Prop}
theorem Tt {a b:List Int}:a.map (Sum.inl:Int->Key)=b.map Sum.inl ↔ a=b :=
 ⟨λ h=>by
  have:=congrArg (List.map λ k:Key=>match k with|.inl i=>i|.inr _=>0) h
  simpa [Function.comp_def] using this,λ h=>by rw [h]⟩
theorem Rpk.get:∀ {kvs:List (List Int × D)}{ws:List (List Key × V)}(k:List Int),Rpk K H O kvs ws->(match Mh kvs k with|some d=>∃ v,Wm ws (k.map Sum.inl)=some v/\Rp K H O d v|none=>Wm ws (k.map Sum.inl)=none)
 | [],ws,k,h=>by unfold Rpk at h;subst h;rfl
 | (j,d) :: r,ws,k,h=>by
  unfold Rpk at h
  obtain⟨v,r',rfl,p,q⟩:=h
  unfold Rpq at p
  unfold Mh
  by_cases e:j=k
  ·rw [if_pos e]
   exact⟨v,J0 (by rw [e]),p⟩
  ·rw [if_neg e,J9 (λ z=>e (Tt.mp z))]
   exact Rpk.get k q
theorem Rpk.length:∀ {kvs:List (List Int × D)}{ws:List (List Key × V)},Rpk K H O kvs ws->ws.length=kvs.length
 | [],ws,h=>by unfold Rpk at h;subst h;rfl
 | (j,d) :: r,ws,h=>by
  unfold Rpk at h
  obtain⟨v,r',rfl,p,q⟩:=h
  simp [Rpk.length q]
theorem Rpk.any:∀ {kvs:List (List Int × D)}{ws:List (List Key × V)}(k:List Int),Rpk K H O kvs ws->ws.any (λ kv=>decide (kv.1=k.map Sum.inl))=kvs.any λ kv=>decide (kv.1=k)
 | [],ws,k,h=>by unfold Rpk at h;subst h;rfl
 | (j,d) :: r,ws,k,h=>by
  unfold Rpk at h
  obtain⟨v,r',rfl,p,q⟩:=h
  rw [List.any_cons,List.any_cons,Rpk.any k q]
  congr 1
  rw [Bool.eq_iff_iff];simp only [decide_eq_true_eq];exact Tt
theorem Rpk.repl {d:D}{v:V}{k:List Int}(p:Rp K H O d v):∀ {kvs:List (List Int × D)}{ws:List (List Key × V)},Rpk K H O kvs ws->Rpk K H O (kvs.map λ kv=>if kv.1=k then (kv.1,d) else kv) (ws.map λ kv=>if kv.1=k.map Sum.inl then (kv.1,v) else kv)
 | [],ws,h=>by unfold Rpk at h;subst h;unfold Rpk;rfl
 | (j,d0) :: r,ws,h=>by
  unfold Rpk at h
  obtain⟨u,r',rfl,p0,q⟩:=h
  rw [List.map_cons,List.map_cons]
  by_cases e:j=k
  ·subst e
   rw [if_pos rfl,if_pos rfl]
   unfold Rpk
   exact⟨v,_,rfl,by unfold Rpq;exact p,Rpk.repl p q⟩
  ·rw [if_neg e,if_neg (λ z=>e (Tt.mp z))]
   unfold Rpk
   exact⟨u,_,rfl,p0,Rpk.repl p q⟩
theorem Rpk.snoc {d:D}{v:V}{k:List Int}(p:Rp K H O d v):∀ {kvs:List (List Int × D)}{ws:List (List Key × V)},Rpk K H O kvs ws->Rpk K H O (kvs++[(k,d)]) (ws++[(k.map Sum.inl,v)])
 | [],ws,h=>by
  unfold Rpk at h;subst h;unfold Rpk
  exact⟨v,[],rfl,by unfold Rpq;exact p,by unfold Rpk;rfl⟩
 | (j,d0) :: r,ws,h=>by
  unfold Rpk at h
  obtain⟨u,r',rfl,p0,q⟩:=h
  show Rpk K H O ((j,d0) :: (r++[(k,d)])) _
  unfold Rpk
  exact⟨u,_,rfl,p0,Rpk.snoc p q⟩
theorem Rpk.put {kvs:List (List Int × D)}{ws:List (List Key × V)}{k:List Int}{d:D}{v:V}(h:Rpk K H O kvs ws) (p:Rp K H O d v):Rpk K H O (dput kvs k d) (putK ws (k.map Sum.inl) v):=by
 unfold dput putK
 rw [h.any k]
 split
 ·exact Rpk.repl p h
 ·exact Rpk.snoc p h
theorem K9 {k:D}{ks:List Int}{v:V}(e:keyOf k=some ks) (r:Rt K H O k v):∃ b,v=.ref b/\H b=some (.tup ((ks.map (Sum.inl:Int->Key)).map kV)):=by
 cases k with
 | tup ds =>
  obtain⟨b,vs,rfl,h,r⟩:=r.tup
  have:=Gz e
  subst this
  refine⟨b,rfl,?_⟩
  rw [h,r.ints,List.map_map];rfl
 | _=>simp [keyOf] at e
end
section
variable {X:Cx}{G:Fc}{o i:Expr}{mo mi:EV}{pos:Pos}
theorem Te {H:Hp}{a b:Addr}{kvs:List (List Key × V)}{k:List Key}(e:Rd H a (.dT kvs)) (eb:H b=some (.tup (k.map kV))):Zm H a (.ref b) (Wm kvs k):=.inr ⟨kvs,k,b,e,rfl,eb,rfl⟩
theorem Aeh (hu:X.A.units+1<cLine) (ho:SE X G o mo) (hi:SE X G i mi) (hs:Akk i):SF X G (.Subscript o i pos) (e2 Acv mo mi) :=
 (Aer hu ho hi hs).imp λ σ H Q z0=>z0.elim λ E z0=>z0.elim λ hr f=>⟨E,hr,(Fin.bind f).mono λ dx fx v H1 s1 p1=>⟨E,hr.same s1,(Fin.bind fx).mono λ dy fy w H2 s2 p2=>by
  obtain⟨d,e,p⟩:=Fin.of fy
  cases dx with
  | dic kvs =>
   simp only [Acv,Option.bind_eq_some_iff] at e
   obtain⟨ks,e1,e2⟩:=e
   obtain⟨b,rfl,hb⟩:=K9 e1 p2
   obtain⟨a,ws,rfl,ha,rk⟩:=(p1.mono s2 λ _ z=>z).dic
   have g:=rk.get ks
   rw [e2] at g
   obtain⟨v,g1,g2⟩:=g
   refine⟨a,v,rfl,?_,p v H2 (s1.trans s2) g2⟩
   have:=Te ha hb
   rw [g1] at this
   exact this
  | _=>cases e⟩⟩
theorem Y7 {K:PySem.W.Frag}{H:Hp}{O:Addr->Prop}{kvs:List (List Int × D)}{ws:List (List Key × V)}{ks:List Int}{a b:Addr}(rk:Rpk K H O kvs ws) (ha:Rd H a (.dT ws)) (hb:H b=some (.tup ((ks.map (Sum.inl:Int->Key)).map kV))) :
  ∃ o,Zm H a (.ref b) o/\o.isSome=(Mh kvs ks).isSome:=by
 refine⟨_,Te ha hb,?_⟩
 have g:=rk.get ks
 cases e:Mh kvs ks with
 | none=>rw [e] at g;dsimp only at g;rw [g];rfl
 | some d=>rw [e] at g;obtain⟨v,g1,_⟩:=g;rw [g1];rfl
end
end M

set_option Elab.async false
set_option linter.all false
set_option maxRecDepth 100000
namespace M
open PySem PySem.Spec PyProof.Rows L2

section
variable {K:PySem.W.Frag}{G:Fc}{E:Ev}{σ:St}{H H':Hp}
theorem get_set {α:Type}{l:List α}{i j:Nat}{x y:α}(h:(l.set i x)[j]?=some y):(j=i/\y=x)\/(j≠i/\l[j]?=some y):=by
 by_cases e:j=i
 ·subst e
  rw [List.getElem?_set_self'] at h
  cases q:l[j]? with
  | none=>rw [q] at h;cases h
  | some z=>rw [q] at h;simp at h;exact .inl ⟨rfl,h.symm⟩
 ·rw [List.getElem?_set_ne (Ne.symm e)] at h
  exact .inr ⟨e,h⟩
theorem Dq {α:Type}{l:List α}{i j:Nat}{x:α}(e:j≠i):(l.set i x)[j]?=l[j]?:=List.getElem?_set_ne (Ne.symm e)
theorem Iz {α:Type}{l:List α}{i:Nat}{x:α}(h:i<l.length):(l.set i x)[i]?=some x:=by simp [h]
theorem Ow.setF {i:Nat}{d:D}{v:Option V}{a:Addr}(h:Ow G.pr (E.set i (.fz d)) (σ.set i v) a):Ow G.pr E σ a:=by
 rcases h with h|⟨j,d',h1,h2⟩
 ·exact .inl h
 ·rcases get_set h1 with ⟨_,e⟩|⟨n,h1⟩
  ·cases e
  ·rw [Dq n] at h2
   exact .inr ⟨j,d',h1,h2⟩
theorem Rel.setF {i:Nat}{d:D}{v:V}(r:Rel K G E σ H) (p:Rp K H (Ow G.pr E σ) d v):Rel K G (E.set i (.fz d)) (σ.set i (some v)) H where
 len:=by simp [r.len]
 fz:=λ j d' h=>by
  rcases get_set h with ⟨e,z⟩|⟨n,h⟩
  ·cases z
   subst e
   have hj:j<σ.length:=by
    rw [<-r.len]
    have:=(List.getElem?_eq_some_iff.mp h).1
    simpa using this
   exact⟨v,Iz hj,p.mono (Same.refl _) λ _ z=>z.setF⟩
  ·obtain⟨u,h1,h2⟩:=r.fz j d' h
   exact⟨u,by rw [Dq n];exact h1,h2.mono (Same.refl _) λ _ z=>z.setF⟩
 ow:=λ j d' h=>by
  rcases get_set h with ⟨e,z⟩|⟨n,h⟩
  ·cases z
  ·obtain⟨u,h1,h2,h3⟩:=r.ow j d' h
   exact⟨u,by rw [Dq n];exact h1,h2.mono (Same.refl _) λ _ z=>z.setF,h3⟩
 ne:=λ j k d' e' a h1 h2 h3 h4=>by
  rcases get_set h1 with ⟨_,z⟩|⟨n1,h1⟩
  ·cases z
  rcases get_set h2 with ⟨_,z⟩|⟨n2,h2⟩
  ·cases z
  rw [Dq n1] at h3
  rw [Dq n2] at h4
  exact r.ne j k d' e' a h1 h2 h3 h4
 base:=r.base
 prt:=r.prt
theorem Rel.setO {i:Nat}{d:D}{a:Addr}(r:Rel K G E σ H) (s:Same H H') (n:H a=none) (p:Own K H' (λ b=>Ow G.pr E σ b\/b=a) d a):Rel K G (E.set i (.ow d)) (σ.set i (some (.ref a))) H':=by
 have no:¬ Ow G.pr E σ a:=r.fresh n
 have sub:∀ b,Ow G.pr (E.set i (.ow d)) (σ.set i (some (.ref a))) b->Ow G.pr E σ b\/b=a:=λ b h=>by
  rcases h with h|⟨j,d',h1,h2⟩
  ·exact .inl (.inl h)
  ·rcases get_set h1 with ⟨e,z⟩|⟨n1,h1⟩
   ·cases z
    subst e
    rcases get_set h2 with ⟨_,z⟩|⟨n,_⟩
    ·cases z;exact .inr rfl
    ·exact absurd rfl n
   ·rw [Dq n1] at h2
    exact .inl (.inr ⟨j,d',h1,h2⟩)
 have h0:G.h0 a=none:=by
  cases q:G.h0 a with
  | none=>rfl
  | some o=>rw [r.base _ _ q] at n;cases n
 refine⟨by simp [r.len],λ j d' h=>?_,λ j d' h=>?_,λ j k d' e' b h1 h2 h3 h4=>?_,r.base.trans s,r.prt⟩
 ·rcases get_set h with ⟨e,z⟩|⟨n1,h⟩
  ·cases z
  ·obtain⟨u,h1,h2⟩:=r.fz j d' h
   exact⟨u,by rw [Dq n1];exact h1,(h2.fresh n).mono s sub⟩
 ·rcases get_set h with ⟨e,z⟩|⟨n1,h⟩
  ·cases z
   subst e
   have hj:j<σ.length:=by
    rw [<-r.len]
    have:=(List.getElem?_eq_some_iff.mp h).1
    simpa using this
   exact⟨a,Iz hj,p.mono (Same.refl _) sub,h0⟩
  ·obtain⟨u,h1,h2,h3⟩:=r.ow j d' h
   refine⟨u,by rw [Dq n1];exact h1,?_,h3⟩
   have h4:Own K H (λ b=>Ow G.pr E σ b\/b=a) d' u:=by
    cases d' with
    | lst ds=>obtain⟨vs,e,q⟩:=h2;exact⟨vs,e,q.fresh n⟩
    | dic ds=>obtain⟨vs,e,q⟩:=h2;exact⟨vs,e,q.fresh n⟩
    | _=>exact h2
   exact h4.mono s sub
 ·rcases get_set h1 with ⟨ej,zj⟩|⟨n1,h1⟩
  ·rcases get_set h2 with ⟨ek,zk⟩|⟨n2,h2'⟩
   ·rw [ej,ek]
   ·exfalso
    cases ej
    rcases get_set h3 with ⟨_,z⟩|⟨n,_⟩
    ·cases z
     rw [Dq n2] at h4
     exact no (.inr ⟨k,e',h2',h4⟩)
    ·exact n rfl
  ·rename_i hh1
   rcases get_set h2 with ⟨ek,zk⟩|⟨n2,h2⟩
   ·exfalso
    cases ek
    rcases get_set h4 with ⟨_,z⟩|⟨n,_⟩
    ·cases z
     rw [Dq n1] at h3
     exact no (.inr ⟨j,d',h1,h3⟩)
    ·exact n rfl
   ·rw [Dq n1] at h3
    rw [Dq n2] at h4
    exact r.ne j k d' e' b h1 h2 h3 h4
end

section
variable {K:PySem.W.Frag}{G:Fc}{E:Ev}{σ:St}{H H':Hp}
theorem Rel.write {i:Nat}{d d':D}{a:Addr}{o':HO}(r:Rel K G E σ H) (hi:E[i]?=some (.ow d)) (ha:σ[i]?=some (some (.ref a))) (p:Own K (upd H a o') (Ow G.pr E σ) d' a):Rel K G (E.set i (.ow d')) σ (upd H a o'):=by
 have oa:Ow G.pr E σ a:=.inr ⟨i,d,hi,ha⟩
 have sub:∀ b,Ow G.pr (E.set i (.ow d')) σ b->Ow G.pr E σ b:=λ b h=>by
  rcases h with h|⟨j,d1,h1,h2⟩
  ·exact .inl h
  ·rcases get_set h1 with ⟨e,z⟩|⟨n1,h1⟩
   ·subst e;exact .inr ⟨j,d,hi,h2⟩
   ·exact .inr ⟨j,d1,h1,h2⟩
 obtain⟨a',e1,e2,e3⟩:=r.ow i d hi
 rw [ha] at e1;cases e1
 refine⟨by simp [r.len],λ j d1 h=>?_,λ j d1 h=>?_,λ j k d1 d2 b h1 h2 h3 h4=>?_,λ b o q=>?_,r.prt⟩
 ·rcases get_set h with ⟨e,z⟩|⟨n1,h⟩
  ·cases z
  ·obtain⟨u,h1,h2⟩:=r.fz j d1 h
   exact⟨u,h1,(h2.write oa).mono (Same.refl _) sub⟩
 ·rcases get_set h with ⟨e,z⟩|⟨n1,h⟩
  ·cases z
   subst e
   exact⟨a,ha,p.mono (Same.refl _) sub,e3⟩
  ·obtain⟨u,h1,h2,h3⟩:=r.ow j d1 h
   have hu:u≠a:=λ z=>by subst z;exact n1 (r.ne j i d1 d u h hi h1 ha)
   refine⟨u,h1,?_,h3⟩
   cases d1 with
   | lst ds=>obtain⟨vs,e,q⟩:=h2;exact⟨vs,by rw [Ah hu];exact e,(q.write oa).mono (Same.refl _) sub⟩
   | dic ds=>obtain⟨vs,e,q⟩:=h2;exact⟨vs,by rw [Ah hu];exact e,(q.write oa).mono (Same.refl _) sub⟩
   | _=>exact h2
 ·have q1:∃ x,E[j]?=some (.ow x):=by
   rcases get_set h1 with ⟨e,z⟩|⟨n1,h1⟩
   ·exact⟨d,by rw [e];exact hi⟩
   ·exact⟨_,h1⟩
  have q2:∃ x,E[k]?=some (.ow x):=by
   rcases get_set h2 with ⟨e,z⟩|⟨n1,h2⟩
   ·exact⟨d,by rw [e];exact hi⟩
   ·exact⟨_,h2⟩
  obtain⟨x1,q1⟩:=q1
  obtain⟨x2,q2⟩:=q2
  exact r.ne j k x1 x2 b q1 q2 h3 h4
 ·have hb:b≠a:=λ z=>by subst z;rw [e3] at q;cases q
  rw [Ah hb]
  exact r.base _ _ q
noncomputable def frz (i:Nat) (E:Ev):Ev:=match E[i]? with
 | some (.ow d)=>E.set i (.fz d)
 | _=>E
theorem Rel.frz {i:Nat}(r:Rel K G E σ H):Rel K G (frz i E) σ H\/∃ a ws,H a=some (.dT ws)/\G.h0 a=none/\∀ o,Rel K G (frz i E) σ (upd H a (.frz o (.dT ws))):=by
 unfold M.frz
 split
 ·rename_i d hi
  obtain⟨a,e1,e2,e3⟩:=r.ow i d hi
  have eσ:σ.set i (some (.ref a))=σ:=by
   apply List.ext_getElem?
   intro j
   by_cases e:j=i
   ·subst e;rw [Iz (List.getElem?_eq_some_iff.mp e1).1,e1]
   ·rw [Dq e]
  have sub:∀ b,Ow G.pr (E.set i (.fz d)) σ b->Ow G.pr E σ b/\b≠a:=λ b h=>by
   have h':Ow G.pr (E.set i (.fz d)) (σ.set i (some (.ref a))) b:=by rw [eσ];exact h
   refine⟨h'.setF,λ z=>?_⟩
   subst z
   rcases h with h|⟨j,d1,h1,h2⟩
   ·obtain⟨o,q,_⟩:=r.prt b h
    rw [e3] at q;cases q
   ·rcases get_set h1 with ⟨e,z⟩|⟨n1,h1⟩
    ·cases z
    ·exact n1 (r.ne j i d1 d b h1 hi h2 e1)
  have ne:∀ (j k:Nat) (d1 d2:D) (b:Addr),(E.set i (.fz d))[j]?=some (.ow d1)->(E.set i (.fz d))[k]?=some (.ow d2)->σ[j]?=some (some (.ref b))->σ[k]?=some (some (.ref b))->j=k:=λ j k d1 d2 b h1 h2 h3 h4=>by
   rcases get_set h1 with ⟨_,z⟩|⟨n1,h1⟩
   ·cases z
   rcases get_set h2 with ⟨_,z⟩|⟨n2,h2⟩
   ·cases z
   exact r.ne j k d1 d2 b h1 h2 h3 h4
  cases hd:Abz d with
  | false =>
   refine .inl ⟨by simp [r.len],λ j d1 h=>?_,λ j d1 h=>?_,ne,r.base,r.prt⟩
   ·rcases get_set h with ⟨e,z⟩|⟨n1,h⟩
    ·cases z
     subst e
     exact⟨_,e1,(e2.mono (Same.refl _) λ b z=>(sub b z).1).rp (λ z=>(sub a z).2 rfl) hd⟩
    ·obtain⟨u,h1,h2⟩:=r.fz j d1 h
     exact⟨u,h1,h2.mono (Same.refl _) λ b z=>(sub b z).1⟩
   ·rcases get_set h with ⟨e,z⟩|⟨n1,h⟩
    ·cases z
    ·obtain⟨u,h1,h2,h3⟩:=r.ow j d1 h
     exact⟨u,h1,h2.mono (Same.refl _) λ b z=>(sub b z).1,h3⟩
  | true =>
   cases d with
   | dic ds =>
    obtain⟨ws,e,t⟩:=(e2.mono (O':=Ow G.pr (E.set i (.fz (.dic ds))) σ) (Same.refl _) λ b z=>(sub b z).1).tagged (λ z=>(sub a z).2 rfl)
    refine .inr ⟨a,ws,e,e3,λ o=>⟨by simp [r.len],λ j d1 h=>?_,λ j d1 h=>?_,ne,λ b u q=>?_,r.prt⟩⟩
    ·rcases get_set h with ⟨e,z⟩|⟨n1,h⟩
     ·cases z
      subst e
      exact⟨_,e1,t o⟩
     ·obtain⟨u,h1,h2⟩:=r.fz j d1 h
      exact⟨u,h1,(h2.mono (Same.refl _) λ b z=>(sub b z).1).tag e⟩
    ·rcases get_set h with ⟨e,z⟩|⟨n1,h⟩
     ·cases z
     ·obtain⟨u,h1,h2,h3⟩:=r.ow j d1 h
      have hu:u≠a:=λ z=>by subst z;exact n1 (r.ne j i d1 _ u h hi h1 e1)
      refine⟨u,h1,?_,h3⟩
      cases d1 with
      | lst ds=>obtain⟨vs,e',q⟩:=h2;exact⟨vs,by rw [Ah hu];exact e',(q.mono (Same.refl _) λ b z=>(sub b z).1).tag e⟩
      | dic ds=>obtain⟨vs,e',q⟩:=h2;exact⟨vs,by rw [Ah hu];exact e',(q.mono (Same.refl _) λ b z=>(sub b z).1).tag e⟩
      | _=>exact h2
    ·rw [Ah (λ z=>by rw [z,e3] at q;cases q)]
     exact r.base _ _ q
   | _=>cases hd
 ·exact .inl r
end

noncomputable def Bg (m n:EX):EX:=λ E=>m E >>= λ o=>match o with
 | .nx E'=>n E'
 | o=>.ok o
noncomputable def Ga:EX:=λ E=>.ok (.nx E)
noncomputable def Ey (m:EV):EX:=λ E=>m E >>= λ d=>.ok (.rt d)
noncomputable def Akz:EX:=λ _=>.ok (.rt .non)
noncomputable def Es (i:Nat) (m:EV):EX:=λ E=>m E >>= λ d=>.ok (.nx (E.set i (.fz d)))
noncomputable def Vr (i:Nat) (m:EV):EX:=λ E=>m E >>= λ d=>.ok (.nx (E.set i (.ow d)))
noncomputable def xDo (m:EV):EX:=λ E=>m E >>= λ _=>.ok (.nx E)
noncomputable def xIf (t:Ev->R Bool) (a b:EX):EX:=λ E=>t E >>= λ k=>if k=true then a E else b E
noncomputable def Aem (i:Nat) (m:EX):EX:=λ E=>m (frz i E)
noncomputable def Aao (i:Nat) (m:EV):EX:=λ E=>match E[i]? with
 | some (.ow (.lst ds))=>m E >>= λ d=>if ds.length<1000000 then .ok (.nx (E.set i (.ow (.lst (ds++[d]))))) else .no
 | _=>.no
noncomputable def Akm (i:Nat) (m:EV):EX:=λ E=>match E[i]? with
 | some (.ow (.lst ds))=>m E >>= λ d=>match d with
  | .lst es=>if ds.length+es.length<1000000 then .ok (.nx (E.set i (.ow (.lst (ds++es))))) else .no
  | _=>.no
 | _=>.no
noncomputable def Ap1 (i j:Nat):EX:=λ E=>match E[i]? with
 | some (.ow (.lst ds))=>match ds[ds.length-1]? with
  | some d=>.ok (.nx ((E.set i (.ow (.lst ds.dropLast))).set j (.fz d)))
  | none=>.no
 | _=>.no
noncomputable def Jx (i:Nat) (mk mv:EV):EX:=λ E=>match E[i]? with
 | some (.ow (.dic kvs))=>mv E >>= λ d=>mk E >>= λ k=>match keyOf k with
  | some ks=>if kvs.length<1000000 then .ok (.nx (E.set i (.ow (.dic (dput kvs ks d))))) else .no
  | none=>.no
 | _=>.no
noncomputable def Ap9 (i:Nat) (mk mv:EV):EX:=λ E=>match E[i]? with
 | some (.ow (.lst ds))=>mv E >>= λ d=>mk E >>= λ k=>match k with
  | .int n=>match ixN ds.length n with
   | some j=>.ok (.nx (E.set i (.ow (.lst (ds.set j d)))))
   | none=>.no
  | _=>.no
 | _=>.no
section
variable {X:Cx}{G:Fc}{st:Stmt}{rest:List Stmt}{m n:EX}{e:Expr}{me:EV}{pos:Pos}
theorem Bt:SB X G [] Ga:=Xv.imp λ D σ H z0=>z0.elim λ E z0=>z0.elim λ hr f=>f σ H hr
theorem Ae (h1:SS X G st m) (h2:SB X G rest n):SB X G (st :: rest) (Bg m n):=(J1 h1 h2).imp λ D σ H z0=>z0.elim λ E z0=>z0.elim λ hr f=>⟨E,hr,(Fin.bind f).mono λ o p=>by
 cases o with
 | nx E'=>exact λ σ' H' r'=>⟨E',r',p⟩
 | bk E'=>exact p
 | ct E'=>exact p
 | rt d=>exact p⟩
theorem Aj (h1:SS X G st m):SB X G [st] m:=Afw h1
theorem tagged {X:Cx}{pins:List (Addr × Obj)}{σ:St}{H:Hp}{s:Shared}{a:Addr}{ws:List (List Key × V)}(I:Inv X pins σ H s) (e:H a=some (.dT ws)):∃ o,Inv X pins σ (upd H a (.frz o (.dT ws))) s/\NF X a:=by
 obtain⟨z,y,xs,rr,o,es,ep,h1,h2⟩:=(show Cp X.prog X.w H s.heap a (.dT ws) from I.hok a _ e)
 exact⟨o,I.tag e h1⟩
theorem Qs (i:Nat) (h:SS X G st m):SS X G st (Aem i m):=by
 rintro pins s σ H D I ⟨E,hr,f⟩
 rcases hr.frz (i:=i) with r|⟨a,ws,e,_,r⟩
 ·exact h pins s σ H D I ⟨frz i E,r,f⟩
 ·obtain⟨o,I',_⟩:=tagged I e
  exact h pins s σ _ D I' ⟨frz i E,r o,f⟩
theorem Bp (he:SF X G e me):SS X G (.Return (some e) pos) (Ey me):=(Adi he).imp λ D σ H ⟨E,hr,f⟩=>⟨E,hr,(Fin.bind f).mono λ d p v H' s z=>p v H' (hr.base.trans s) (z.mono (Same.refl _) λ _ z=>.inl z)⟩
theorem Az (i:Nat) {x:Str}{pos':Pos}(he:SF X G e me) (hN:X.N.Nodup) (hi:X.N[i]?=some x:=by rfl) (hx:Loc X.env.scope x:=by first|exact Or.inl rfl|exact Or.inr rfl) (hs:swapsWith e (some (.Name x pos')) pos.line X.env=pure false:=by rfl) (hf:X.fn x=true\/X.env.scope.names.lookup x=some .local:=by first|exact .inl rfl|exact .inr rfl|assumption) :
  SS X G (.Assign [.Name x pos'] e pos) (Es i me):=(Adv hN hi hx he hs hf).imp λ D σ H ⟨E,hr,f⟩=>⟨E,hr,(Fin.bind f).mono λ d p v H' s z=>p _ _ ((hr.same s).setF z)⟩
theorem Hh (i:Nat) {x:Str}{pos':Pos}(he:SN X G e me) (hN:X.N.Nodup) (hi:X.N[i]?=some x:=by rfl) (hx:Loc X.env.scope x:=by first|exact Or.inl rfl|exact Or.inr rfl) (hs:swapsWith e (some (.Name x pos')) pos.line X.env=pure false:=by rfl) (hf:X.fn x=true\/X.env.scope.names.lookup x=some .local:=by first|exact .inl rfl|exact .inr rfl|assumption) :
  SS X G (.Assign [.Name x pos'] e pos) (Vr i me):=(Adv hN hi hx he hs hf).imp λ D σ H ⟨E,hr,f⟩=>⟨E,hr,(Fin.bind f).mono λ d p a H' s n z=>p _ _ (hr.setO s n z)⟩
theorem Afz (he:SE X G e me) (hs:swapsWith e none pos.line X.env=pure false:=by rfl):SS X G (.Expr e pos) (xDo me):=(R5 he hs).imp λ D σ H ⟨E,hr,f⟩=>⟨E,hr,(Fin.bind f).mono λ d p v H' s z=>p σ H' (hr.same s)⟩
theorem Ds {c:Expr}{a b:List Stmt}{tc:Ev->R Bool}{ma mb:EX}(hc:ST X G c tc) (ha:SB X G a ma) (hb:SB X G b mb):SS X G (.If c a b pos) (xIf tc ma mb):=(Aee hc ha hb).imp λ D σ H z0=>z0.elim λ E z0=>z0.elim λ hr f=>⟨E,hr,(Fin.bind f).mono λ k p H' s=>by
 cases k with
 | true=>exact⟨E,hr.same s,p⟩
 | false=>exact⟨E,hr.same s,p⟩⟩
noncomputable def Xg:EX:=λ _=>.no
theorem U6:SS X G st Xg:=Aa5.imp λ D σ H z0=>z0.elim λ E z0=>z0.elim λ hr f=>f

theorem U9 {K:PySem.W.Frag}{E:Ev}{σ:St}{H:Hp}{i:Nat}{ds:List D}(r:Rel K G E σ H) (h:E[i]?=some (.ow (.lst ds))):∃ a vs,σ[i]?=some (some (.ref a))/\H a=some (.lst vs)/\Rps K H (Ow G.pr E σ) ds vs/\Ow G.pr E σ a:=by
 obtain⟨a,e1,⟨vs,e2,e3⟩,_⟩:=r.ow i _ h
 exact⟨a,vs,e1,e2,e3,.inr ⟨i,_,h,e1⟩⟩
theorem Aaf {K:PySem.W.Frag}{E:Ev}{σ:St}{H:Hp}{i:Nat}{ds:List (List Int × D)}(r:Rel K G E σ H) (h:E[i]?=some (.ow (.dic ds))):∃ a vs,σ[i]?=some (some (.ref a))/\H a=some (.dT vs)/\Rpk K H (Ow G.pr E σ) ds vs/\Ow G.pr E σ a:=by
 obtain⟨a,e1,⟨vs,e2,e3⟩,_⟩:=r.ow i _ h
 exact⟨a,vs,e1,e2,e3,.inr ⟨i,_,h,e1⟩⟩
theorem Ww {o e:Expr}{to te:TE}{apos cpos:Pos}(ho:PE X o to) (he:PE X e te) (hbase:attributeBase o "append" X.env (eval o X.env)=eval o X.env:=by rfl)
  (hfew:((backTo cpos (starEach [e] X.env)).all (λ x=>!x.1) && (backToKw cpos (keywordEach [] X.env)).all (λ x=>x.1.isSome) && decide ([e].length+([]:List Keyword).length+(if ([]:List Keyword).isEmpty then 0 else 1)<30))=true:=by rfl)
  (hline:(apos.endLine == cpos.line)=true:=by rfl) (hs:starEach [e] X.env=(false,eval e X.env) :: starEach [] X.env:=by rfl):PE X (.Call (.Attribute o "append" apos) [e] [] cpos) (tBM X.K "list" Zc to (Aes te Amv)) :=
 Aa1 PySem.F.plainAttrs_list PySem.F.slot_list_append PySem.F.type_list_append Qq ho (Br he Ea hs) hbase hfew hline hs
theorem Yl {o e:Expr}{to te:TE}{apos cpos:Pos}(ho:PE X o to) (he:PE X e te) (hbase:attributeBase o "extend" X.env (eval o X.env)=eval o X.env:=by rfl)
  (hfew:((backTo cpos (starEach [e] X.env)).all (λ x=>!x.1) && (backToKw cpos (keywordEach [] X.env)).all (λ x=>x.1.isSome) && decide ([e].length+([]:List Keyword).length+(if ([]:List Keyword).isEmpty then 0 else 1)<30))=true:=by rfl)
  (hline:(apos.endLine == cpos.line)=true:=by rfl) (hs:starEach [e] X.env=(false,eval e X.env) :: starEach [] X.env:=by rfl):PE X (.Call (.Attribute o "extend" apos) [e] [] cpos) (tBM X.K "list" Ye to (Aes te Amv)) :=
 Aa1 PySem.F.plainAttrs_list PySem.F.slot_list_extend PySem.F.type_list_extend Yv ho (Br he Ea hs) hbase hfew hline hs
theorem La (i:Nat) {x:Str}{p apos cpos:Pos}(he:SF X G e me) (hN:X.N[i]?=some x:=by rfl) (hv:Vis X.env.scope x:=by first|exact Or.inl rfl|exact Or.inr (Or.inl rfl)|exact Or.inr (Or.inr rfl)) (hd:(x == ("__debug__":Str))=false:=by decide) (hcd:(x == ("__classdict__":Str))=false:=by decide)
  (hfew:((backTo cpos (starEach [e] X.env)).all (λ x=>!x.1) && (backToKw cpos (keywordEach [] X.env)).all (λ x=>x.1.isSome) && decide ([e].length+([]:List Keyword).length+(if ([]:List Keyword).isEmpty then 0 else 1)<30))=true:=by rfl)
  (hline:(apos.endLine == cpos.line)=true:=by rfl) (hs:starEach [e] X.env=(false,eval e X.env) :: starEach [] X.env:=by rfl)
  (hs2:swapsWith (.Call (.Attribute (.Name x p) "append" apos) [e] [] cpos) none pos.line X.env=pure false:=by rfl):SS X G (.Expr (.Call (.Attribute (.Name x p) "append" apos) [e] [] cpos) pos) (Aao i me) :=
 (R5 (Ww (Mx hN hv hd hcd) he rfl hfew hline hs) hs2).imp λ D σ H z0=>z0.elim λ E z0=>z0.elim λ hr f=>by
  unfold Aao at f
  split at f
  ·rename_i ds hi
   obtain⟨a,vs,e1,e2,e3,e4⟩:=U9 hr hi
   refine⟨_,e1,.inl ⟨rfl,vs,SqL.of e2⟩,⟨E,hr,(Fin.bind f).mono λ d p v H' s z=>?_⟩⟩
   split at p
   ·rename_i hl
    have hr':=hr.same s
    refine⟨a,vs,v,rfl,rfl,s _ _ e2,by rw [e3.length,sizeLine_eq];omega,p _ _ (hr'.write hi e1 ⟨_,Aq,?_⟩)⟩
    exact Rps.write e4 ((e3.mono s λ _ z=>z).append (Rps.cons z Rps.nil))
   ·exact p.elim
  ·exact f.elim
theorem Aia (i:Nat) {x:Str}{p apos cpos:Pos}(he:SF X G e me) (hN:X.N[i]?=some x:=by rfl) (hv:Vis X.env.scope x:=by first|exact Or.inl rfl|exact Or.inr (Or.inl rfl)|exact Or.inr (Or.inr rfl)) (hd:(x == ("__debug__":Str))=false:=by decide) (hcd:(x == ("__classdict__":Str))=false:=by decide)
  (hfew:((backTo cpos (starEach [e] X.env)).all (λ x=>!x.1) && (backToKw cpos (keywordEach [] X.env)).all (λ x=>x.1.isSome) && decide ([e].length+([]:List Keyword).length+(if ([]:List Keyword).isEmpty then 0 else 1)<30))=true:=by rfl)
  (hline:(apos.endLine == cpos.line)=true:=by rfl) (hs:starEach [e] X.env=(false,eval e X.env) :: starEach [] X.env:=by rfl)
  (hs2:swapsWith (.Call (.Attribute (.Name x p) "extend" apos) [e] [] cpos) none pos.line X.env=pure false:=by rfl):SS X G (.Expr (.Call (.Attribute (.Name x p) "extend" apos) [e] [] cpos) pos) (Akm i me) :=
 (R5 (Yl (Mx hN hv hd hcd) he rfl hfew hline hs) hs2).imp λ D σ H z0=>z0.elim λ E z0=>z0.elim λ hr f=>by
  unfold Akm at f
  split at f
  ·rename_i ds hi
   obtain⟨a,vs,e1,e2,e3,e4⟩:=U9 hr hi
   refine⟨_,e1,.inl ⟨rfl,vs,SqL.of e2⟩,⟨E,hr,(Fin.bind f).mono λ d p v H' s z=>?_⟩⟩
   cases d with
   | lst es =>
    dsimp only at p
    split at p
    ·rename_i hl
     have hr':=hr.same s
     unfold Rp at z
     obtain⟨b,ws,rfl,nb,hb,rb⟩:=z
     refine⟨a,b,vs,ws,rfl,rfl,s _ _ e2,hb,by rw [e3.length,rb.length,sizeLine_eq];omega,p _ _ (hr'.write hi e1 ⟨_,Aq,?_⟩)⟩
     exact Rps.write e4 ((e3.mono s λ _ z=>z).append rb)
    ·exact p.elim
   | _=>exact p.elim
  ·exact f.elim
theorem Oa (i:Nat) {x:Str}{k v:Expr}{mk mv:EV}{p pos':Pos}(hu:X.A.units+1<cLine) (hk:SE X G k mk) (hv:SF X G v mv) (hN:X.N[i]?=some x:=by rfl) (hvs:Vis X.env.scope x:=by first|exact Or.inl rfl|exact Or.inr (Or.inl rfl)|exact Or.inr (Or.inr rfl)) (hd:(x == ("__debug__":Str))=false:=by decide) (hcd:(x == ("__classdict__":Str))=false:=by decide)
  (hs:swapsWith v (some (.Subscript (.Name x p) k pos')) pos.line X.env=pure false:=by rfl):SS X G (.Assign [.Subscript (.Name x p) k pos'] v pos) (Jx i mk mv) :=
 (Ae0 hu (Mx hN hvs hd hcd) hk hv hs).imp λ D σ H z0=>z0.elim λ E z0=>z0.elim λ hr f=>by
  unfold Jx at f
  split at f
  ·rename_i kvs hi
   obtain⟨a,vs,e1,e2,e3,e4⟩:=Aaf hr hi
   refine⟨E,hr,(Fin.bind f).mono λ d f v H1 s1 z1=>⟨_,e1,⟨E,hr.same s1,(Fin.bind f).mono λ k f w H2 s2 z2=>?_⟩⟩⟩
   cases ek:keyOf k with
   | none=>rw [ek] at f;exact f.elim
   | some ks =>
    rw [ek] at f
    dsimp only at f
    split at f
    ·rename_i hl
     obtain⟨b,rfl,hb⟩:=K9 ek z2
     have s:=s1.trans s2
     have e2':=s _ _ e2
     refine⟨a,_,rfl,Ag6.t e2' hb (by rw [e3.length,sizeLine_eq];omega),f _ _ ((hr.same s).write hi e1 ⟨_,Aq,?_⟩)⟩
     exact Rpk.write e4 (Rpk.put (e3.mono s λ _ z=>z) (z1.mono s2 λ _ z=>z))
    ·exact f.elim
  ·exact f.elim
end
end M

set_option Elab.async false
set_option linter.all false
set_option maxRecDepth 100000
namespace M
open PySem PySem.Spec PyProof.Rows L2

structure Gd (X:Cx):Prop where
 calm:X.calm=true
 po:PassesOwn (model X.prog X.w) X.A X.env X.xe
 nd:X.N.Nodup
 un:X.A.units+40<cLine

noncomputable def K8 (E:Ev) (σ:St) (a:Addr):Prop:=∃ (i:Nat) (d:D),E[i]?=some (.ow d)/\σ[i]?=some (some (.ref a))
open Classical in
noncomputable def Fc.lock (G:Fc) (E:Ev) (σ:St) (H:Hp):Fc:={ h0:=λ a=>if K8 E σ a then none else H a,pr:=G.pr,xc:=G.xc }
section
variable {K:PySem.W.Frag}{G:Fc}{E:Ev}{σ:St}{H H':Hp}
theorem S5 {a:Addr}(h:¬ K8 E σ a):(G.lock E σ H).h0 a=H a:=by unfold Fc.lock;simp [h]
theorem Rel.noOwn (r:Rel K G E σ H) {a:Addr}{o:HO}(h:G.h0 a=some o):¬ K8 E σ a:=by
 rintro⟨i,d,h1,h2⟩
 obtain⟨b,e1,_,e3⟩:=r.ow i d h1
 rw [h2] at e1;cases e1
 rw [h] at e3;cases e3
theorem Rel.sub (r:Rel K G E σ H):Same G.h0 (G.lock E σ H).h0:=λ a o h=>by rw [S5 (r.noOwn h)];exact r.base _ _ h
theorem Rel.lock (r:Rel K G E σ H):Rel K (G.lock E σ H) E σ H where
 len:=r.len
 fz:=r.fz
 ow:=λ i d h=>by
  obtain⟨a,e1,e2,e3⟩:=r.ow i d h
  refine⟨a,e1,e2,?_⟩
  have:K8 E σ a:=⟨i,d,h,e1⟩
  unfold Fc.lock;simp [this]
 ne:=r.ne
 base:=λ a o h=>by
  unfold Fc.lock at h
  dsimp only at h
  split at h
  ·cases h
  ·exact h
 prt:=λ a h=>by
  obtain⟨o,e,n⟩:=r.prt a h
  exact⟨_,by rw [S5 (r.noOwn e)];exact r.base _ _ e,n⟩
theorem Rel.weak {G':Fc}(r:Rel K G' E σ H) (s:Same G.h0 G'.h0) (e:G'.pr=G.pr) (p:∀ a,G.pr a->∃ o,G.h0 a=some o/\Ji o):Rel K G E σ H where
 len:=r.len
 fz:=by rw [<-e];exact r.fz
 ow:=λ i d h=>by
  rw [<-e]
  obtain⟨a,e1,e2,e3⟩:=r.ow i d h
  refine⟨a,e1,e2,?_⟩
  cases q:G.h0 a with
  | none=>rfl
  | some o=>rw [s _ _ q] at e3;cases e3
 ne:=r.ne
 base:=s.trans r.base
 prt:=p
end
structure Fc.Le (G G':Fc):Prop where
 h0:Same G.h0 G'.h0
 pr:∀ a o,G.h0 a=some o->G'.pr a->G.pr a
 sub:∀ a,G.pr a->G'.pr a
theorem Fc.Le.refl (G:Fc):G.Le G:=⟨Same.refl _,λ _ _ _ h=>h,λ _ h=>h⟩
theorem locked {K:PySem.W.Frag}{G G':Fc}{E E':Ev}{σ σ':St}{H H':Hp}(le:(G.lock E σ H).Le G') (r:Rel K G' E' σ' H'):∀ a o,¬ Ow G.pr E σ a->H a=some o->H' a=some o/\¬ Ow G'.pr E' σ' a:=λ a o no h=>by
 have hl:(G.lock E σ H).h0 a=some o:=by rw [S5 λ z=>no (.inr z)];exact h
 have hl':=le.h0 _ _ hl
 refine⟨r.base _ _ hl',λ z=>?_⟩
 rcases z with z|⟨i,d,h1,h2⟩
 ·exact no (.inl (le.pr _ _ hl z))
 ·obtain⟨b,e1,_,e3⟩:=r.ow i d h1
  rw [h2] at e1;cases e1
  rw [hl'] at e3;cases e3
noncomputable def Agt (K:PySem.W.Frag) (G0:Fc) (J:It) (ds:List D):Prop :=
 ∀ (G:Fc) (E:Ev) (σ:St) (H:Hp),G0.Le G->Rel K G E σ H->J.stop ds.length H/\∀ (i:Nat) (d:D),ds[i]?=some d->J.go i H/\∀ x H',J.yld i H x H'->Same H H'/\Rp K H' (Ow G.pr E σ) d x
noncomputable def SI (X:Cx) (G:Fc) (tg iter:Expr) (m:Ev->R (List D)):Prop :=
 PI X tg iter λ σ H Rr=>∃ E,Rel X.K G E σ H/\Fin (m E) (λ ds=>∀ J H1,Same H H1->Agt X.K (G.lock E σ H1) J ds->Rr J H1) G.xc
noncomputable def SG (X:Cx) (tg:Expr) (ts:List Nat) (set:D->Ev->Option Ev):Prop :=
 ∃ g,PG X tg g/\∀ (G:Fc) (E E':Ev) (σ:St) (H:Hp) (d:D) (v:V) (Q:St->Hp->Prop),Rel X.K G E σ H->Rp X.K H (Ow G.pr E σ) d v->set d E=some E'->(∀ σ',(∀ j,j∉ts->σ'[j]?=σ[j]?)->Rel X.K G E' σ' H->Q σ' H)->g v σ H Q
noncomputable def gN (i:Nat):D->Ev->Option Ev:=λ d E=>some (E.set i (.fz d))
noncomputable def gT (i j:Nat):D->Ev->Option Ev:=λ d E=>match d with
 | .tup [a,b]=>some ((E.set i (.fz a)).set j (.fz b))
 | _=>none
noncomputable def forL (set:D->Ev->Option Ev) (b:EX):List D->Ev->R Out
 | [],E=>.ok (.nx E)
 | d :: ds,E=>match set d E with
  | none=>.no
  | some E1=>b E1 >>= λ o=>match o with
   | .nx E2=>forL set b ds E2
   | .ct E2=>forL set b ds E2
   | .bk E2=>.ok (.nx E2)
   | .rt d=>.ok (.rt d)
noncomputable def Mg (mi:Ev->R (List D)) (set:D->Ev->Option Ev) (b:EX):EX:=λ E=>mi E >>= λ ds=>forL set b ds E
noncomputable def Ao1 (c:Ev->R Bool) (b:EX):Nat->Ev->R Out
 | 0,_=>.no
 | n+1,E=>c E >>= λ k=>if k=true then (b E >>= λ o=>match o with
   | .nx E2=>Ao1 c b n E2
   | .ct E2=>Ao1 c b n E2
   | .bk E2=>.ok (.nx E2)
   | .rt d=>.ok (.rt d)) else .ok (.nx E)
section
variable {X:Cx}{G:Fc}{tg iter:Expr}{body:List Stmt}{pos:Pos}{mi:Ev->R (List D)}{set:D->Ev->Option Ev}{mb:EX}
theorem Cy (gd:Gd X) (i:Nat) {x:Str}{pos:Pos}(hi:X.N[i]?=some x:=by rfl) (hx:Loc X.env.scope x:=by first|exact Or.inl rfl|exact Or.inr rfl) (hf:X.fn x=true\/X.env.scope.names.lookup x=some .local:=by first|exact .inl rfl|exact .inr rfl|assumption):SG X (.Name x pos) [i] (gN i) :=
 ⟨_,Ob gd.nd hi hx hf,λ G E E' σ H d v Q r p e k=>by
  unfold gN at e;cases e
  exact k _ (λ j hj=>Dq (by simpa using hj)) (r.setF p)⟩
theorem Kg (gd:Gd X) (i j:Nat) {x y:Str}{px py pos:Pos}{kk:Nat}(hi:X.N[i]?=some x:=by rfl) (hj:X.N[j]?=some y:=by rfl) (hx:Loc X.env.scope x:=by first|exact Or.inl rfl|exact Or.inr rfl) (hy:Loc X.env.scope y:=by first|exact Or.inl rfl|exact Or.inr rfl)
  (hf:X.fn x=true\/X.env.scope.names.lookup x=some .local:=by first|exact .inl rfl|exact .inr rfl|assumption) (hf':X.fn y=true\/X.env.scope.names.lookup y=some .local:=by first|exact .inl rfl|exact .inr rfl|assumption)
  (h1:(assignEach [Expr.Name x px,.Name y py] X.env).map (·.2)=assign (.Name x px) X.env :: (assignEach [.Name y py] X.env).map (·.2):=by rfl) (h2:(assignEach [Expr.Name y py] X.env).map (·.2)=assign (.Name y py) X.env :: (assignEach [] X.env).map (·.2):=by rfl)
  (hn:(assignEach [Expr.Name x px,.Name y py] X.env).length=2:=by rfl) (hst:(assignEach [Expr.Name x px,.Name y py] X.env).findIdx? (·.1)=none:=by rfl):SG X (.Tuple [.Name x px,.Name y py] kk pos) [i,j] (gT i j) :=
 ⟨_,Ah9 gd.calm (T6 (Ob gd.nd hi hx hf) (T6 (Ob gd.nd hj hy hf') Agd h2) h1) hn hst,λ G E E' σ H d v Q r p e k=>by
  unfold gT at e
  split at e
  ·rename_i a b
   cases e
   unfold Rp at p
   obtain⟨l,vs,rfl,no,hl,rs⟩:=p
   unfold Rps at rs
   obtain⟨v1,r1,rfl,p1,rs⟩:=rs
   unfold Rps at rs
   obtain⟨v2,r2,rfl,p2,rs⟩:=rs
   unfold Rps at rs
   subst rs
   refine⟨l,[v1,v2],rfl,SqT.of hl,rfl,v1,[v2],rfl,v2,[],rfl,rfl,k _ (λ k hk=>by
    simp only [List.mem_cons,not_or] at hk
    rw [Dq hk.2.1,Dq hk.1]) ((r.setF p1).setF (p2.mono (Same.refl _) λ _ z=>z.setF))⟩
  ·cases e⟩
theorem Dy {ts:List Nat}(gd:Gd X) (hi:SI X G tg iter mi) (hg:SG X tg ts set) (hb:∀ G',G'.xc=G.xc->SB X G' body mb) (hs:∀ x,foldedSetIterable iter X.env x=pure x:=by intro _;rfl):SS X G (.For tg iter body [] pos) (Mg mi set mb):=by
 obtain⟨g,hg,hset⟩:=hg
 rintro pins s σ0 H0 Dn I ⟨E0,hr0,f0⟩
 -- the body's reading hangs on the lock: choose it within the rule
 have key:∀ (G':Fc),G'.xc=G.xc->PS X (.For tg iter body [] pos) (Aod (λ σ H Rr=>∃ E,Rel X.K G E σ H/\Fin (mi E) (λ ds=>∀ J H1,Same H H1->Agt X.K (G.lock E σ H1) J ds->Rr J H1) G.xc) g
   (λ Dn σ H=>∃ G',G'.xc=G.xc/\∃ E,Rel X.K G' E σ H/\Fin (mb E) (T3 X.K G' Dn) G'.xc)):=λ G' hG' =>
  Ag3 gd.po gd.calm hi hg (λ pins s σ H D I ⟨G',e,h⟩=>hb G' e pins s σ H D I h) hs
 refine key G rfl pins s σ0 H0 Dn I ⟨E0,hr0,(Fin.bind f0).mono λ ds f J H1 s1 it=>?_⟩
 have hr1:=hr0.same s1
 have hsub:=hr1.sub
 have wk:∀ {E:Ev} {σ:St} {H:Hp},Rel X.K (G.lock E0 σ0 H1) E σ H->Rel X.K G E σ H:=λ r=>r.weak hsub rfl hr0.prt
 refine⟨λ i m σ H=>∃ E,Rel X.K (G.lock E0 σ0 H1) E σ H/\i<=ds.length/\m=ds.length-i/\Fin (forL set mb (ds.drop i) E) (T3 X.K G Dn) G.xc,⟨ds.length,E0,hr1.lock,Nat.zero_le _,by simp,by simpa using f⟩,?_⟩
 rintro i m σ H ⟨E,r,hi',rfl,f⟩
 obtain⟨h1,h2⟩:=it _ E σ H (Fc.Le.refl _) r
 by_cases hlt:i<ds.length
 ·obtain⟨go,yl⟩:=h2 i ds[i] (by simp [hlt])
  rw [List.drop_eq_getElem_cons hlt] at f
  unfold forL at f
  cases hse:set ds[i] E with
  | none=>rw [hse] at f;exact f.elim
  | some E1 =>
   rw [hse] at f
   refine .inr ⟨go,λ σ' H'=>∃ E2,Rel X.K (G.lock E0 σ0 H1) E2 σ' H'/\Fin (forL set mb (ds.drop (i+1)) E2) (T3 X.K G Dn) G.xc,λ σ' H' ⟨E2,r2,f2⟩=>⟨ds.length-(i+1),by omega,E2,r2,hlt,rfl,f2⟩,λ x H' y=>?_⟩
   obtain⟨s2,px⟩:=yl x H' y
   refine hset _ E E1 σ H' ds[i] x _ (r.same s2) px hse λ σ' _ r'=>⟨G.lock E0 σ0 H1,rfl,E1,r',(Fin.bind f).mono λ o p=>?_⟩
   cases o with
   | nx E2=>exact λ σ2 H2 r2=>⟨E2,r2,p⟩
   | ct E2=>exact λ σ2 H2 r2=>⟨E2,r2,p⟩
   | bk E2=>exact λ σ2 H2 r2=>p σ2 H2 (wk r2)
   | rt d=>exact λ v H2 s2 z=>p v H2 (hsub.trans s2) z
 ·have e:i=ds.length:=by omega
  subst e
  rw [List.drop_length] at f
  exact .inl ⟨h1,f σ H (wk r)⟩
noncomputable def iD (m:EV):Ev->R (List D):=λ E=>m E >>= λ d=>match d with
 | .lst ds=>.ok ds
 | _=>.no
noncomputable def iT (m:EV):Ev->R (List D):=λ E=>m E >>= λ d=>match d with
 | .tup ds=>.ok ds
 | _=>.no
noncomputable def iR1 (m:EV):Ev->R (List D):=λ E=>m E >>= λ d=>match d with
 | .int n=>if n.natAbs<1000000 then .ok ((List.range n.toNat).map λ (k:Nat)=>D.int (k:Int)) else .no
 | _=>.no
noncomputable def iR2 (m n:EV):Ev->R (List D):=λ E=>m E >>= λ d=>n E >>= λ e=>match d,e with
 | .int a,.int b=>if a.natAbs<1000000/\b.natAbs<1000000 then .ok ((List.range (b-a).toNat).map λ (k:Nat)=>D.int (a+(k:Int))) else .no
 | _,_=>.no
theorem _root_.L2.PI.imp {X:Cx}{tg e:Expr}{t t':TI}(h:PI X tg e t) (i:∀ σ H Q,t' σ H Q->t σ H Q):PI X tg e t':=λ pins s σ H Q I q=>h pins s σ H Q I (i σ H Q q)
theorem Ib {m:EV}(h:SF X G iter m):SI X G tg iter (iD m):=(Af2 h).imp λ σ H Q z0=>z0.elim λ E z0=>z0.elim λ hr f=>⟨E,hr,(Fin.bind f).mono λ d p v H1 s1 z=>by
 cases d with
 | lst ds =>
  have z':=z
  unfold Rp at z
  obtain⟨a,vs,rfl,no,ha,rs⟩:=z
  refine⟨a,rfl,⟨vs,SqL.of ha⟩,p _ H1 s1 λ G' E' σ' H' le r'=>?_⟩
  have hl':=(locked le r' _ _ no ha).1
  refine⟨⟨vs,SqL.of hl',by rw [rs.length];exact Nat.le_refl _⟩,λ i d hd=>?_⟩
  obtain⟨v,hv,pv⟩:=rs.get hd
  refine⟨⟨vs,v,SqL.of hl',hv⟩,?_⟩
  rintro x H'' ⟨e,y⟩
  subst e
  refine⟨Same.refl _,?_⟩
  have:=y vs (SqL.of hl')
  rw [hv] at this;cases this
  exact pv.move (locked le r')
 | _=>exact p.elim⟩
theorem Aa9 {K:PySem.W.Frag}{G:Fc}(lo:Int) (n:Nat):Agt K G (Itr lo n) ((List.range n).map λ (k:Nat)=>D.int (lo+(k:Int))):=λ G' E σ H le r=>by
 refine⟨by simp [Itr],λ i d hd=>?_⟩
 rw [List.getElem?_map] at hd
 have hi:i<n:=by
  by_cases h:i<n
  ·exact h
  ·rw [List.getElem?_eq_none (by simpa using h)] at hd;cases hd
 rw [List.getElem?_range hi] at hd
 cases hd
 refine⟨hi,λ x H' y=>?_⟩
 obtain⟨rfl,rfl⟩:=y
 exact⟨Same.refl _,by unfold Rp;rfl⟩
theorem Dz {a:Expr}{m:EV}{p pos:Pos}(hg:Gl X "range") (hm:X.mg "range"=none) (ha:SF X G a m) (hs:starEach [a] X.env=[(false,eval a X.env)]:=by rfl):SI X G tg (.Call (.Name "range" p) [a] [] pos) (iR1 m) :=
 (W9 hg hm (Br ha Ea hs) hs).imp λ σ H Q z0=>z0.elim λ E z0=>z0.elim λ hr f=>⟨E,hr,(Fin.bind f).mono λ d p v H1 s1 z=>by
  cases d with
  | int n =>
   dsimp only at p
   split at p
   ·rename_i hn
    unfold Rp at z
    subst z
    refine⟨n,rfl,by omega (config:={}),by omega (config:={}),p _ H1 s1 ?_⟩
    have:=Aa9 (K:=X.K) (G:=G.lock E σ H1) 0 n.toNat
    simp only [Int.zero_add] at this
    exact this
   ·exact p.elim
  | _=>exact p.elim⟩
theorem Aiq {m:EV}(h:SF X G iter m):SI X G tg iter (iT m):=(Ahg h).imp λ σ H Q z0=>z0.elim λ E z0=>z0.elim λ hr f=>⟨E,hr,(Fin.bind f).mono λ d p v H1 s1 z=>by
 cases d with
 | tup ds =>
  unfold Rp at z
  obtain⟨a,vs,rfl,no,ha,rs⟩:=z
  refine⟨a,rfl,⟨vs,SqT.of ha⟩,p _ H1 s1 λ G' E' σ' H' le r'=>?_⟩
  have hl':=(locked le r' _ _ no ha).1
  refine⟨⟨vs,SqT.of hl',by rw [rs.length];exact Nat.le_refl _⟩,λ i d hd=>?_⟩
  obtain⟨v,hv,pv⟩:=rs.get hd
  refine⟨⟨vs,v,SqT.of hl',hv⟩,?_⟩
  rintro x H'' ⟨e,y⟩
  subst e
  refine⟨Same.refl _,?_⟩
  have:=y vs (SqT.of hl')
  rw [hv] at this;cases this
  exact pv.move (locked le r')
 | _=>exact p.elim⟩
end

noncomputable def spD (K:PySem.W.Frag) (n:Nat) (den:List D->R D):Sp:=λ vs H Q _=>vs.length=n/\∃ (pr:Addr->Prop) (ds:List D),(∀ a,pr a->∃ o,H a=some o/\Ji o)/\Rps K H pr ds vs/\Fin (den ds) (λ d=>∀ v H',Same H H'->Rp K H' pr d v->Q v H') λ _=>False
noncomputable def ended (r:R Out):R D:=r >>= λ o=>match o with
 | .rt d=>.ok d
 | .nx _=>.ok .non
 | _=>.no
noncomputable def Jq (n:Nat) (ds:List D):Ev:=ds.map Sl.fz++List.replicate (n-ds.length) .un
noncomputable def den (n:Nat) (m:EX):List D->R D:=λ ds=>ended (m (Jq n ds))
theorem Px {K:PySem.W.Frag}{H:Hp}{pr:Addr->Prop}{xc:Nat->Prop}{N:List Str}{ds:List D}{vs:List V}(hp:∀ a,pr a->∃ o,H a=some o/\Ji o) (r:Rps K H pr ds vs):Rel K ⟨H,pr,xc⟩ (Jq N.length ds) (L2.start N vs) H:=by
 have none_ow:∀ (i:Nat) d,(Jq N.length ds)[i]?≠some (.ow d):=λ i d h=>by
  unfold Jq at h
  rcases Nat.lt_or_ge i (ds.map Sl.fz).length with hi|hi
  ·rw [List.getElem?_append_left hi,List.getElem?_map] at h
   cases q:ds[i]? with
   | none=>rw [q] at h;cases h
   | some x=>rw [q] at h;cases h
  ·rw [List.getElem?_append_right hi,List.getElem?_replicate] at h
   split at h<;>cases h
 refine⟨?_,λ i d h=>?_,λ i d h=>absurd h (none_ow i d),λ i j d e a h=>absurd h (none_ow i d),Same.refl _,hp⟩
 ·unfold Jq L2.start
  simp [r.length]
 ·unfold Jq at h
  rcases Nat.lt_or_ge i (ds.map Sl.fz).length with hi|hi
  ·rw [List.getElem?_append_left hi,List.getElem?_map] at h
   cases q:ds[i]? with
   | none=>rw [q] at h;cases h
   | some x =>
    rw [q] at h;cases h
    obtain⟨v,e,p⟩:=r.get q
    refine⟨v,?_,p.mono (Same.refl _) λ a z=>?_⟩
    ·unfold L2.start
     rw [List.getElem?_append_left (by rw [List.length_map,r.length];simpa using hi),List.getElem?_map,e];rfl
    ·rcases z with z|⟨j,d',z,_⟩
     ·exact z
     ·exact absurd z (none_ow j d')
  ·rw [List.getElem?_append_right hi,List.getElem?_replicate] at h
   split at h<;>cases h
noncomputable abbrev bx (P:Program) (w:World) (K:PySem.W.Frag) (mg:Str->Option Value) (base:Heap) (N:List Str) (qual:Str) (sc:Scope) (f:Addr) (cdv:Value) (A:Around) (outer:List Env) (s:Shared) (H:Hp) (E:XK):Cx:=(Adg CX0 P w K mg base N qual sc f cdv A outer s H E).nox
section
variable {P:Program}{w:World}{K:PySem.W.Frag}{mg:Str->Option Value}{base:Heap}{x qual:Str}{st:Stmt}{f:Addr}{fd:FuncData}{N ps:List Str}{k:Nat}{m:EX}
end
section
variable {X:Cx}{G:Fc}{k:Nat}{f:Addr}{fd:FuncData}{ps:List Str}{dn:List D->R D}{x:Str}{p pos:Pos}{e:Expr}{es:List Expr}{ma:Ev->R (List D)}
noncomputable def Bj (n:Nat) (dn:List D->R D) (ma:Ev->R (List D)):EV:=λ E=>ma E >>= λ ds=>if ds.length=n then dn ds else .no
theorem Ad6 {n:Nat}(F:FnOk X.prog X.w X.K X.mg X.base CX0 k f fd ps (spD X.K n dn)) (hx:∀ c,¬ G.xc c) (hr:Room k X.A) (hg:Gl X x) (hm:X.mg x=some (.ref f)) (hk:PySem.W.keepIn X.K (.ref f)=true) (hb:Binds X.K fd ps [])
  (ha:SA X G (e :: es) ma) (hdb:(x == ("__debug__":Str))=false:=by decide) (he:starEach (e :: es) X.env=(false,eval e X.env) :: starEach es X.env:=by rfl) (hpl:(backTo pos (starEach es X.env)).any (·.1)=false:=by rfl) :
  SF X G (.Call (.Name x p) (e :: es) [] pos) (Bj n dn ma) :=
 (Ad8 F hr hg hm hk hb .nil Am0 ha hdb he hpl).imp λ σ H Q z0=>z0.elim λ E z0=>z0.elim λ hr f=>⟨E,hr,(Fin.bind f).mono λ ds p vs H1 s1 rs=>by
  split at p
  ·rename_i hl
   refine⟨by rw [List.append_nil,rs.length];exact hl,Ow G.pr E σ,ds,λ a z=>(hr.same s1).owned z,by rw [List.append_nil];exact rs,?_⟩
   revert p
   cases dn ds with
   | ok d=>exact λ p v H' s z=>p v H' (s1.trans s) z
   | er c=>exact λ p=>hx c p
   | no=>exact λ p=>p
  ·exact p.elim⟩
end
end M

set_option Elab.async false
set_option linter.all false
set_option maxRecDepth 100000
namespace M
open PySem PySem.Spec PyProof.Rows L2

section
variable {prog:Program}{w:World}{A:Around}{R:Result->Shared->Prop}{s:Shared}
theorem S8 {elt target iter:Expr}{ifs:List Expr}{scope:Scope}{pos:Pos}{it acc:Value}{env:Env}(I:Nat->Shared->Prop)
  (turn:∀ n s,I n s->wpAny (model prog w) A (pyNext it) (λ r s₁=>match r with
   | none=>R (.ok .next) s₁
   | some v=>wpAny (model prog w) A (letOwnedTupleGo target it v) (λ _ s₁'=>wpAny (model prog w) A (assign target env v) (λ _ s₂ =>
     wpAny (model prog w) A (forIn ifs true λ c r=>if r=true then do let ok ← isTrue c env (eval c env);pure (ForInStep.yield ok) else pure (ForInStep.yield r)) (λ ok s₃ =>
      if ok=true then wpAny (model prog w) A (eval elt env) (λ x s₄ =>
       wpAny (model prog w) A (call (.builtin "list.append") [acc,x]) (λ _ s₅=>∃ m,m<n/\I m s₅) (λ _ _=>False) s₄) (λ _ _=>False) s₃
      else ∃ m,m<n/\I m s₃) (λ _ _=>False) s₂) (λ _ _=>False) s₁') (λ _ _=>False) s₁) (λ _ _=>False) s)
  (n:Nat) (h:I n s):codeAny (model prog w) A (.compLoop (.ListComp elt [⟨target,iter,ifs,0⟩] scope pos) 0 it acc env) R s:=by
 refine codeAny_loop rfl I (λ n s hI=>?_) n h
 show wpAny _ A ((compTurn (.ListComp elt [⟨target,iter,ifs,0⟩] scope pos) 0 it acc env).onRaise (λ x=>do noteFrame x env;theTreesLotGoes x)) _ _ s
 refine wpAny_noted ?_
 rw [compTurn_list]
 refine wpAny_bind (wpAny_standAt (wpAny_bind (wpAny_mono (turn n s hI) (λ r s₁ h₁=>?_) λ _ _ h'=>h'.elim)))
 cases r with
 | none=>exact wpAny_pure h₁
 | some v =>
  refine wpAny_bind (wpAny_mono h₁ (λ _ s₁' h₁'=>?_) λ _ _ h'=>h'.elim)
  refine wpAny_bind (wpAny_mono h₁' (λ _ s₂ h₂=>wpAny_bind (wpAny_mono h₂ (λ ok s₃ h₃=>?_) λ _ _ h'=>h'.elim)) λ _ _ h'=>h'.elim)
  cases ok with
  | false=>exact wpAny_pure ⟨rfl,h₃⟩
  | true =>
   exact wpAny_bind (wpAny_bind (wpAny_mono h₃ (λ x s₄ h₄=>wpAny_bind (wpAny_mono h₄ (λ _ s₅ h₅=>wpAny_pure (wpAny_pure ⟨rfl,h₅⟩)) λ _ _ h'=>h'.elim)) λ _ _ h'=>h'.elim))
end

noncomputable def Xm (names:List (Str × NameKind)) (env:Env):List (Str × Addr)->List (Str × Addr)
 | cs=>names.foldl (λ cs p=>if p.2 == .free then match env.cells.lookup p.1 with|some a=>(p.1,a) :: cs|none=>cs else cs) cs
theorem Gy {env:Env}{cs:List (Str × Addr)}{p:Str × NameKind}{r:List (Str × NameKind)}:Xm (p :: r) env cs=Xm r env (if p.2 == .free then match env.cells.lookup p.1 with|some a=>(p.1,a) :: cs|none=>cs else cs):=rfl
theorem Nf {scope:Scope}{env:Env}(h:∀ p∈scope.names,p.2=.free->∃ c,env.cells.lookup p.1=some c):closureFor scope env=pure (Xm scope.names env []):=by
 unfold closureFor
 have go:∀ (l:List (Str × NameKind)) (cs:List (Str × Addr)),(∀ p∈l,p.2=.free->∃ c,env.cells.lookup p.1=some c) →
   (forIn l cs λ (x:Str × NameKind) r=>(match x with|(name,kind)=>if (kind == NameKind.free)=true then do let a ← cellOf env name;pure (ForInStep.yield ((name,a) :: r)) else pure (ForInStep.yield r):Sem (ForInStep (List (Str × Addr)))))=pure (Xm l env cs):=by
  intro l
  induction l with
  | nil=>intro cs _;rfl
  | cons p r ih =>
   intro cs hp
   obtain⟨name,kind⟩:=p
   rw [List.forIn_cons]
   dsimp only
   by_cases hk:kind=.free
   ·subst hk
    obtain⟨c,hc⟩:=hp _ List.mem_cons_self rfl
    have e1:cellOf env name=pure c:=by unfold cellOf;rw [show env.cells.lookup name=some c from hc]
    simp only [beq_self_eq_true,if_true,e1,pure_bind]
    rw [ih _ λ q hq=>hp q (List.mem_cons_of_mem _ hq),Gy]
    simp only [beq_self_eq_true,if_true]
    rw [show env.cells.lookup name=some c from hc]
   ·have hb:(kind == NameKind.free)=false:=by simpa using hk
    simp only [hb,Bool.false_eq_true,if_false,pure_bind]
    rw [ih _ λ q hq=>hp q (List.mem_cons_of_mem _ hq),Gy]
    simp only [hb,Bool.false_eq_true,if_false]
 have:=go scope.names [] h
 simp only [bind_pure]
 exact this
theorem Ez {env:Env}:∀ {l:List (Str × NameKind)}{cs:List (Str × Addr)}{x:Str}{c:Addr},(Xm l env cs).lookup x=some c->cs.lookup x=some c\/((x,.free)∈l/\env.cells.lookup x=some c)
 | [],cs,x,c,h=>.inl h
 | (n,k) :: r,cs,x,c,h=>by
  rw [Gy] at h
  rcases Ez h with h|⟨h1,h2⟩
  ·by_cases hk:k=.free
   ·subst hk
    simp only [beq_self_eq_true,if_true] at h
    cases e:env.cells.lookup n with
    | none=>rw [e] at h;exact .inl h
    | some a =>
     rw [e] at h
     dsimp only at h
     rw [List.lookup_cons] at h
     cases hx:x == n with
     | true =>
      rw [hx] at h
      cases h
      have:=eq_of_beq hx
      subst this
      exact .inr ⟨List.mem_cons_self,e⟩
     | false=>rw [hx] at h;exact .inl h
   ·have hb:(k == NameKind.free)=false:=by simpa using hk
    simp only [hb,Bool.false_eq_true,if_false] at h
    exact .inl h
  ·exact .inr ⟨List.mem_cons_of_mem _ h1,h2⟩
theorem O6 {env:Env}{x:Str}:∀ {l:List (Str × NameKind)}{cs:List (Str × Addr)},(∃ c,cs.lookup x=some c)->∃ c,(Xm l env cs).lookup x=some c
 | [],cs,h=>h
 | (n,k) :: r,cs,h=>by
  rw [Gy]
  apply O6
  by_cases hk:(k == NameKind.free)=true
  ·rw [if_pos hk]
   cases e:env.cells.lookup n with
   | none=>exact h
   | some a =>
    dsimp only
    rw [List.lookup_cons]
    cases hx:x == n with
    | true=>exact⟨a,rfl⟩
    | false=>exact h
  ·rw [if_neg hk];exact h
theorem N7 {env:Env}{x:Str}{c:Addr}(hc:env.cells.lookup x=some c):∀ {l:List (Str × NameKind)}{cs:List (Str × Addr)},(x,.free)∈l->∃ c,(Xm l env cs).lookup x=some c
 | [],cs,h=>by simp at h
 | (n,k) :: r,cs,h=>by
  rw [Gy]
  rcases List.mem_cons.mp h with h|h
  ·cases h
   apply O6
   simp only [beq_self_eq_true,if_true]
   rw [hc]
   exact⟨c,by simp [List.lookup_cons]⟩
  ·exact N7 hc h
noncomputable def cxc (X:Cx) (scope:Scope) (s3:Shared) (H3:Hp) (fp:List Addr) (C:Addr):Cx :=
 { X with env:=compEnvC scope (Xm scope.names X.env []) C X.env,outer:=X.stack,s₀:=s3,H₀:=H3,ex:=fp,fn:=λ x=>decide (scope.names.lookup x=some .local),pn:=[],xe:=λ _ _=>False }
structure CScope (X:Cx) (scope:Scope):Prop where
 kind:scope.kind=.function
 nocell:∀ y∈scope.names,y.2≠.cell
 names:∀ y∈scope.names,scope.names.lookup y.1=some y.2
 free:∀ y∈scope.names,y.2=.free->X.env.kindOf y.1=some .cell\/X.env.kindOf y.1=some .free
section
variable {X:Cx}{scope:Scope}{pins:List (Addr × Obj)}{σ:St}{H:Hp}{s:Shared}
theorem Fe {env:Env}:∀ {names:List (Str × NameKind)}{x:Str}{k:NameKind},(names.map λ (n,k)=>if (k == NameKind.free && env.scope.kind == .function && env.kindOf n == some .cell) then (n,NameKind.cell) else (n,k)).lookup x=some k →
  ∃ k0,names.lookup x=some k0/\(k=k0\/(k0=.free/\k=.cell))
 | [],x,k,h=>by simp at h
 | (n,k0) :: r,x,k,h=>by
  rw [List.map_cons] at h
  have key:∀ p:Str × NameKind,p.1=n->(p.2=k0\/(k0=.free/\p.2=.cell))->List.lookup x (p :: List.map (λ (n,k)=>if (k == NameKind.free && env.scope.kind == .function && env.kindOf n == some .cell) then (n,NameKind.cell) else (n,k)) r)=some k →
    ∃ k0',List.lookup x ((n,k0) :: r)=some k0'/\(k=k0'\/(k0'=.free/\k=.cell)):=λ p hp hk hl=>by
   obtain⟨p1,p2⟩:=p
   dsimp only at hp hk
   subst hp
   rw [List.lookup_cons] at hl ⊢
   cases hx:x == p1 with
   | true=>rw [hx] at hl;cases hl;exact⟨k0,rfl,hk⟩
   | false=>rw [hx] at hl;exact Fe hl
  dsimp only at h
  split at h
  ·rename_i hc
   refine key _ rfl (.inr ⟨?_,rfl⟩) h
   simp only [Bool.and_eq_true,beq_iff_eq] at hc
   exact hc.1.1
  ·exact key _ rfl (.inl rfl) h
theorem Aif (S:CScope X scope) (I:Inv X pins σ H s) {fp:List Addr}(f:∀ b∈fp,Vf X pins H b) (lt:∀ b∈fp,b<s.heap.objs.size):(cxc X scope s H fp s.heap.objs.size).Ok where
 mod:=I.ok.mod
 kind:=S.kind
 glob:=I.ok.glob
 blt:=I.ok.blt
 above:=Nat.le_refl _
 inj:=λ x y c h1 h2=>by
  rcases Ez h1 with h|⟨_,h1⟩
  ·simp at h
  rcases Ez h2 with h|⟨_,h2⟩
  ·simp at h
  exact I.ok.inj x y c h1 h2
 has:=λ x hx=>by
  have hx':∃ k,(relabel scope X.env).names.lookup x=some k/\(k=.cell\/k=.free):=by
   rcases hx with hx|hx
   ·exact⟨_,hx,.inl rfl⟩
   ·exact⟨_,hx,.inr rfl⟩
  obtain⟨k,hk,hk2⟩:=hx'
  obtain⟨k0,h0,hh⟩:=Fe hk
  have hm:=PySem.mem_of_lookup h0
  have hf:k0=.free:=by
   rcases hh with rfl|⟨h,_⟩
   ·rcases hk2 with rfl|rfl
    ·exact absurd rfl (S.nocell _ hm)
    ·rfl
   ·exact h
  subst hf
  obtain⟨c,hc⟩:=I.ok.has x (S.free _ hm rfl)
  exact N7 hc hm
 cab:=λ x c hf h=>by
  have hl:scope.names.lookup x=some .local:=by simpa [cxc] using hf
  rcases Ez h with h|⟨h1,_⟩
  ·simp at h
  ·have:=S.names _ h1
   rw [hl] at this;cases this
 hd:=I.ok.hd
 frames:=I.ok.frames
 stk:=.inl rfl
 exf:=λ b hb=>⟨Nat.ne_of_lt (lt b hb),λ x c h=>by
  rcases Ez h with h|⟨_,h⟩
  ·simp at h
  ·exact (f b hb).2.2.2.2.1 x c h⟩
 bs:=I.bs
 bsz:=Nat.le_trans I.ok.bsz I.sz
 noex:=λ b o e hb=>by
  rcases (f b hb).2.2.2.1 with h|h
  ·exact I.ok.noex b o e h
  ·have h2:b<X.base.objs.size:=Heap.lt_size e
   exact absurd (Nat.lt_of_lt_of_le h2 (Nat.le_trans I.ok.bsz h)) (Nat.lt_irrefl _)
 exfs:=λ b hb z=>by
  rcases List.mem_cons.mp (I.stkSub b z) with z|z
  ·exact (f b hb).2.1 z
  ·exact (f b hb).2.2.1 z
 funs:=I.stack
 frf:=I.stkFree

noncomputable def clr:List Nat->Ev->Ev
 | [],E=>E
 | i :: r,E=>clr r (E.set i .un)
noncomputable def Yr:List Nat->St->St
 | [],σ=>σ
 | i :: r,σ=>Yr r (σ.set i none)
theorem Oc:∀ (ts:List Nat) (σ:St),(Yr ts σ).length=σ.length
 | [],σ=>rfl
 | i :: r,σ=>by unfold Yr;rw [Oc r];simp
theorem Ka:∀ (ts:List Nat) (σ:St) (j:Nat),(Yr ts σ)[j]?=if j∈ts then (if j<σ.length then some none else none) else σ[j]?
 | [],σ,j=>by simp [Yr]
 | i :: r,σ,j=>by
  unfold Yr
  rw [Ka r]
  by_cases h:j∈r
  ·simp [h]
  ·by_cases e:j=i
   ·subst e
    simp only [h,if_false,List.mem_cons,true_or,if_true]
    by_cases hl:j<σ.length
    ·rw [Iz hl];simp [hl]
    ·simp [hl]
   ·simp only [h,if_false,List.mem_cons,e,or_self,if_false]
    exact Dq e
theorem Ly:∀ (ts:List Nat) (E:Ev) (j:Nat),(clr ts E)[j]?=if j∈ts then (if j<E.length then some .un else none) else E[j]?
 | [],σ,j=>by simp [clr]
 | i :: r,σ,j=>by
  unfold clr
  rw [Ly r]
  by_cases h:j∈r
  ·simp [h]
  ·by_cases e:j=i
   ·subst e
    simp only [h,if_false,List.mem_cons,true_or,if_true]
    by_cases hl:j<σ.length
    ·rw [Iz hl];simp [hl]
    ·simp [hl]
   ·simp only [h,if_false,List.mem_cons,e,or_self,if_false]
    exact Dq e
theorem Aaj (ts:List Nat):∀ (E:Ev),(clr ts E).length=E.length:=by
 induction ts with
 | nil=>intro E;rfl
 | cons i r ih=>intro E;unfold clr;rw [ih];simp
theorem Et {ts:List Nat}{E:Ev}{j:Nat}{x:Sl}(hx:x≠.un) (h:(clr ts E)[j]?=some x):j∉ts/\E[j]?=some x:=by
 rw [Ly] at h
 by_cases hj:j∈ts
 ·rw [if_pos hj] at h
  split at h
  ·cases h;exact absurd rfl hx
  ·cases h
 ·rw [if_neg hj] at h
  exact⟨hj,h⟩
theorem Aah (S:CScope X scope) (I:Inv X pins σ H s) {fp:List Addr}(f:∀ b∈fp,Vf X pins H b) (lt:∀ b∈fp,b<s.heap.objs.size) {ts:List Nat}(hts:∀ (i:Nat) x,X.N[i]?=some x->scope.names.lookup x=some .local->i∈ts)
  {h':Heap} (hns:h'.Ns s.heap.objs.size λ _=>none) (keep:∀ b o,s.heap.get? b=some o->h'.get? b=some o) {tk:Nat}:Inv (cxc X scope s H fp s.heap.objs.size) [] (Yr ts σ) H { s with heap:=h',toks:=tk }:=by
 refine⟨Aif S I f lt,rfl,I.bare,Un.kept keep,⟨_,hns,λ i x v h1 h2 h3=>?_⟩,λ x c h=>?_,I.hok.fresh (Nat.le_refl _),λ x c h=>?_,λ p hp=>absurd hp (by simp [cxc]),I.hok.kept keep,?_⟩
 ·have h1:X.N[i]?=some x:=h1
  have hi:i∉ts/\σ[i]?=some (some v):=by
   rw [Ka] at h2
   by_cases hj:i∈ts
   ·rw [if_pos hj] at h2
    split at h2<;>cases h2
   ·rw [if_neg hj] at h2
    exact⟨hj,h2⟩
  have hk:∃ k,(relabel scope X.env).names.lookup x=some k/\(k=.local\/k=.cell\/k=.free):=by
   rcases h3 with h|h|h
   ·exact⟨_,h,.inl rfl⟩
   ·exact⟨_,h,.inr (.inl rfl)⟩
   ·exact⟨_,h,.inr (.inr rfl)⟩
  obtain⟨k,hk,hk2⟩:=hk
  obtain⟨k0,h0,hh⟩:=Fe hk
  have hm:=PySem.mem_of_lookup h0
  have hf:k0=.free:=by
   rcases hh with rfl|⟨h,_⟩
   ·rcases hk2 with rfl|rfl|rfl
    ·exact absurd (hts i x h1 h0) hi.1
    ·exact absurd rfl (S.nocell _ hm)
    ·rfl
   ·exact h
  subst hf
  have hk3:k=.cell\/k=.free:=by
   rcases hh with rfl|⟨_,h⟩
   ·exact .inr rfl
   ·exact .inl h
  obtain⟨m,_,hl⟩:=I.loc
  have kx:=S.free _ hm rfl
  have vis:Vis X.env.scope x:=by
   rcases kx with kx|kx
   ·exact .inr (.inl kx)
   ·exact .inr (.inr kx)
  obtain⟨u,ru,lk⟩:=hl i x v h1 hi.2 vis
  refine⟨u,ru,?_⟩
  rcases lk with ⟨q,_⟩|⟨_,c,hc,hcell⟩
  ·exfalso
   rcases kx with kx|kx<;>(have z:=q.symm.trans kx;cases z)
  ·obtain⟨c',hc'⟩:=N7 hc (cs:=[]) hm
   have:c'=c:=by
    rcases Ez hc' with z|⟨_,z⟩
    ·simp at z
    ·exact Option.some.inj (z.symm.trans hc)
   subst this
   refine .inr ⟨?_,c',hc',?_⟩
   ·rcases hk3 with rfl|rfl
    ·exact .inl hk
    ·exact .inr hk
   ·obtain⟨o,e,rest⟩:=hcell
    exact⟨o,keep _ _ e,rest⟩
 ·rcases Ez h with z|⟨_,z⟩
  ·simp at z
  ·obtain⟨v,o,e,rest⟩:=I.cell x c z
   exact⟨v,o,keep _ _ e,rest⟩
 ·rcases Ez h with z|⟨_,z⟩
  ·simp at z
  ·exact I.freeC x c z
 ·rw [Oc];exact I.len
end

noncomputable def Gu (set:D->Ev->Option Ev) (mt:Ev->R Bool) (me:EV) (E:Ev):List D->R (List D)
 | []=>.ok []
 | d :: ds=>match set d E with
  | none=>.no
  | some E1=>mt E1 >>= λ k=>if k=true then (me E1 >>= λ y=>Gu set mt me E ds >>= λ ys=>.ok (y :: ys)) else Gu set mt me E ds
noncomputable def Aan (ts:List Nat) (E:Ev):Bool:=ts.all λ i=>match E[i]? with
 | some (.ow _)=>false
 | _=>true
noncomputable def Fd (ts:List Nat) (set:D->Ev->Option Ev) (mi:Ev->R (List D)) (mt:Ev->R Bool) (me:EV):EV:=λ E =>
 if Aan ts E=true then (mi E >>= λ ds=>if ds.length<=1000000 then (Gu set mt me (clr ts E) ds >>= λ ys=>.ok (.lst ys)) else .no) else .no
noncomputable def SC (X:Cx) (G:Fc) (ifs:List Expr) (mt:Ev->R Bool):Prop :=
 ∀ (pins:List (Addr × Obj)) (s:Shared) (σ:St) (H:Hp) (Q:Bool->Hp->Prop),Inv X pins σ H s->(∃ E,Rel X.K G E σ H/\Fin (mt E) (λ b=>∀ H',Same H H'->Q b H') G.xc) →
  wpAny (model X.prog X.w) X.A (forIn ifs true λ c r=>if r=true then do let ok ← isTrue c X.env (eval c X.env);pure (ForInStep.yield ok) else pure (ForInStep.yield r)) (TP X pins σ Q) X.xe s
noncomputable def Jy:Ev->R Bool:=λ _=>.ok true
section
variable {X:Cx}{G:Fc}
theorem T7:SC X G [] Jy:=λ pins s σ H Q I ⟨E,hr,f⟩=>wpAny_pure ⟨H,I,f H (Same.refl _)⟩
theorem Ac3 {c:Expr}{mt:Ev->R Bool}(h:ST X G c mt):SC X G [c] mt:=by
 rintro pins s σ H Q I ⟨E,hr,f⟩
 rw [List.forIn_cons]
 simp only [if_true]
 refine wpAny_bind (wpAny_bind (thn (h pins s σ H Q I ⟨E,hr,f⟩) λ b s1 q=>wpAny_pure ?_))
 exact wpAny_pure q
end
theorem Un.post {fs ex:List Addr}{H H1:Hp}{h h1 h2:Heap}{C:Addr}(u:Un fs ex H H1 h h1) (k:∀ b o,b≠C->h1.get? b=some o->h2.get? b=some o) (n:∀ b o,h.get? b=some o->b≠C):Un fs ex H H1 h h2 where
 keep:=λ b o q m hb he=>k b o (n b o q) (u.keep b o q m hb he)
 slot:=λ b o q m hb he=>by obtain⟨sl,e⟩:=u.slot b o q m hb he;exact⟨sl,k b _ (n b o q) e⟩
 free:=u.free
 there:=λ b o q he=>by obtain⟨o',e⟩:=u.there b o q he;exact⟨o',k b _ (n b o q) e⟩
 tups:=u.tups
 frzs:=u.frzs
 tbls:=u.tbls
theorem HOk.post {P:Program}{w:World}{H:Hp}{h h':Heap}{C:Addr}(x:HOk P w H h) (n:H C=none) (k:∀ b o,b≠C->h.get? b=some o->h'.get? b=some o):HOk P w H h':=λ a o e =>
 (x a o e).stay (λ b u hb q=>k b u (by
  rcases hb with rfl|hb
  ·exact λ z=>by subst z;rw [n] at e;cases e
  ·exact λ z=>by subst z;rw [n] at hb;cases hb) q) (λ _ q=>q) λ _ _ q=>q
section
variable {K:PySem.W.Frag}{G:Fc}{E:Ev}{σ:St}{H H':Hp}
noncomputable def Fc.in (G:Fc) (E:Ev) (σ:St) (H:Hp) (L:Addr) (vs:List V):Fc:=⟨λ b=>if b=L then some (.lst vs) else (G.lock E σ H).h0 b,λ a=>G.pr a\/a=L,G.xc⟩
theorem Ajr {L:Addr}{vs:List V}(n:H L=none):(G.lock E σ H).Le (G.in E σ H L vs) where
 h0:=λ b o h=>by
  have hb:b≠L:=λ z=>by
   subst z
   unfold Fc.lock at h
   dsimp only at h
   split at h
   ·cases h
   ·rw [n] at h;cases h
  unfold Fc.in
  simp only [hb,if_false]
  exact h
 pr:=λ b o h z=>by
  rcases z with z|z
  ·exact z
  ·subst z
   unfold Fc.lock at h
   dsimp only at h
   split at h
   ·cases h
   ·rw [n] at h;cases h
 sub:=λ a h=>.inl h
theorem Aik {pr:Addr->Prop}{ts:List Nat}{σ':St}{a:Addr}(hσ:∀ j,j∉ts->σ'[j]?=σ[j]?) (h:Ow pr (clr ts E) σ' a):Ow pr E σ a:=by
 rcases h with h|⟨i,d,h1,h2⟩
 ·exact .inl h
 ·obtain⟨hi,h1⟩:=Et (by intro z;cases z) h1
  rw [hσ i hi] at h2
  exact .inr ⟨i,d,h1,h2⟩
theorem Afc {pr:Addr->Prop}{ts:List Nat}{σ':St}{a:Addr}(no:Aan ts E=true) (hσ:∀ j,j∉ts->σ'[j]?=σ[j]?) (h:Ow pr E σ a):Ow pr (clr ts E) σ' a:=by
 rcases h with h|⟨i,d,h1,h2⟩
 ·exact .inl h
 ·have hi:i∉ts:=λ hi=>by
   have:=List.all_eq_true.mp no i hi
   rw [h1] at this
   cases this
  exact .inr ⟨i,d,by rw [Ly,if_neg hi];exact h1,by rw [hσ i hi];exact h2⟩
theorem Rel.block {ts:List Nat}{L:Addr}(r:Rel K G E σ H) (n:H L=none):Rel K (G.in E σ H L []) (clr ts E) (Yr ts σ) (upd H L (.lst [])):=by
 have hσ:∀ j,j∉ts->(Yr ts σ)[j]?=σ[j]?:=λ j hj=>by rw [Ka,if_neg hj]
 have sub:∀ b,Ow (G.in E σ H L []).pr (clr ts E) (Yr ts σ) b->Ow G.pr E σ b\/b=L:=λ b h=>by
  rcases h with (h|h)|h
  ·exact .inl (.inl h)
  ·exact .inr h
  ·exact .inl (Aik hσ (.inr h))
 refine⟨by rw [Aaj,Oc];exact r.len,λ i d h=>?_,λ i d h=>?_,λ i j d e a h1 h2 h3 h4=>?_,λ b o h=>?_,λ a h=>?_⟩
 ·obtain⟨hi,h⟩:=Et (by intro z;cases z) h
  obtain⟨v,e,p⟩:=r.fz i d h
  exact⟨v,by rw [hσ i hi];exact e,(p.fresh n).mono (Ar n) sub⟩
 ·obtain⟨hi,h⟩:=Et (by intro z;cases z) h
  obtain⟨a,e1,e2,e3⟩:=r.ow i d h
  have ha:a≠L:=λ z=>by subst z;obtain⟨o,q,_⟩:=e2.there;rw [n] at q;cases q
  refine⟨a,by rw [hσ i hi];exact e1,?_,?_⟩
  ·have h4:Own K H (λ b=>Ow G.pr E σ b\/b=L) d a:=by
    cases d with
    | lst ds=>obtain⟨vs,e,q⟩:=e2;exact⟨vs,e,q.fresh n⟩
    | dic ds=>obtain⟨vs,e,q⟩:=e2;exact⟨vs,e,q.fresh n⟩
    | _=>exact e2
   exact h4.mono (Ar n) sub
  ·have:K8 E σ a:=⟨i,d,h,e1⟩
   unfold Fc.in Fc.lock
   simp [ha,this]
 ·obtain⟨hi,h1⟩:=Et (by intro z;cases z) h1
  obtain⟨hj,h2⟩:=Et (by intro z;cases z) h2
  rw [hσ i hi] at h3
  rw [hσ j hj] at h4
  exact r.ne i j d e a h1 h2 h3 h4
 ·unfold Fc.in at h
  dsimp only at h
  split at h
  ·rename_i e;subst e;rw [Aq];exact h
  ·rename_i e;rw [Ah e];exact r.lock.base _ _ h
 ·rcases h with h|h
  ·obtain⟨o,q,nt⟩:=r.lock.prt a h
   refine⟨o,?_,nt⟩
   exact (Ajr n).h0 _ _ q
  ·subst h
   exact⟨.lst [],by unfold Fc.in;simp,True.intro⟩
theorem Rel.bump {E0:Ev}{σ0:St}{H0:Hp}{L:Addr}{vs ws:List V}(r:Rel K (G.in E0 σ0 H0 L vs) E σ H):Rel K (G.in E0 σ0 H0 L ws) E σ (upd H L (.lst ws)):=by
 have hL:Ow (G.in E0 σ0 H0 L vs).pr E σ L:=.inl (.inr rfl)
 refine⟨r.len,λ i d h=>?_,λ i d h=>?_,r.ne,λ b o h=>?_,λ a h=>?_⟩
 ·obtain⟨v,e,p⟩:=r.fz i d h
  exact⟨v,e,p.write hL⟩
 ·obtain⟨a,e1,e2,e3⟩:=r.ow i d h
  have ha:a≠L:=λ z=>by subst z;unfold Fc.in at e3;simp at e3
  refine⟨a,e1,?_,?_⟩
  ·cases d with
   | lst ds=>obtain⟨vs,e,q⟩:=e2;exact⟨vs,by rw [Ah ha];exact e,q.write hL⟩
   | dic ds=>obtain⟨vs,e,q⟩:=e2;exact⟨vs,by rw [Ah ha];exact e,q.write hL⟩
   | _=>exact e2
  ·unfold Fc.in at e3 ⊢
   simp only [ha,if_false] at e3 ⊢
   exact e3
 ·by_cases e:b=L
  ·subst e
   unfold Fc.in at h
   simp at h
   rw [Aq,h]
  ·rw [Ah e]
   refine r.base _ _ ?_
   unfold Fc.in at h ⊢
   simp only [e,if_false] at h ⊢
   exact h
 ·obtain⟨o,q,nt⟩:=r.prt a h
  by_cases e:a=L
  ·subst e;exact⟨.lst ws,by unfold Fc.in;simp,True.intro⟩
  ·refine⟨o,?_,nt⟩
   unfold Fc.in at q ⊢
   simp only [e,if_false] at q ⊢
   exact q
theorem Rel.un {i:Nat}(r:Rel K G E σ H):Rel K G (E.set i .un) σ H:=by
 have sub:∀ b,Ow G.pr (E.set i .un) σ b->Ow G.pr E σ b:=λ b h=>by
  rcases h with h|⟨j,d,h1,h2⟩
  ·exact .inl h
  ·rcases get_set h1 with ⟨_,z⟩|⟨_,h1⟩
   ·cases z
   ·exact .inr ⟨j,d,h1,h2⟩
 refine⟨by simp [r.len],λ j d h=>?_,λ j d h=>?_,λ j k d e a h1 h2 h3 h4=>?_,r.base,r.prt⟩
 ·rcases get_set h with ⟨_,z⟩|⟨_,h⟩
  ·cases z
  ·obtain⟨v,e,p⟩:=r.fz j d h;exact⟨v,e,p.mono (Same.refl _) sub⟩
 ·rcases get_set h with ⟨_,z⟩|⟨_,h⟩
  ·cases z
  ·obtain⟨a,e1,e2,e3⟩:=r.ow j d h;exact⟨a,e1,e2.mono (Same.refl _) sub,e3⟩
 ·rcases get_set h1 with ⟨_,z⟩|⟨_,h1⟩
  ·cases z
  rcases get_set h2 with ⟨_,z⟩|⟨_,h2⟩
  ·cases z
  exact r.ne j k d e a h1 h2 h3 h4
theorem Rel.clr:∀ {ts:List Nat}{E:Ev},Rel K G E σ H->Rel K G (clr ts E) σ H
 | [],E,r=>r
 | i :: ts,E,r=>by unfold M.clr;exact Rel.clr r.un
end

section
variable {X:Cx}{G:Fc}{elt iter tg:Expr}{ifs:List Expr}{scope:Scope}{pos:Pos}{ts:List Nat}{set:D->Ev->Option Ev}{mi:Ev->R (List D)}{mt:Ev->R Bool}{me:EV}
structure CompOk (X:Cx) (xc:Nat->Prop) (elt tg:Expr) (ifs:List Expr) (scope:Scope) (ts:List Nat) (set:D->Ev->Option Ev) (mt:Ev->R Bool) (me:EV):Prop where
 S:CScope X scope
 loc:∀ (i:Nat) x,X.N[i]?=some x->scope.names.lookup x=some .local->i∈ts
 hset:∀ d E E',set d E=some E'->clr ts E'=clr ts E
 hg:∀ s3 H3 fp C,SG (cxc X scope s3 H3 fp C) tg ts set
 hc:∀ s3 H3 fp C G',G'.xc=xc->SC (cxc X scope s3 H3 fp C) G' ifs mt
 he:∀ s3 H3 fp C G',G'.xc=xc->SF (cxc X scope s3 H3 fp C) G' elt me
structure CompI (X:Cx) (G:Fc) (scope:Scope) (ts:List Nat) (set:D->Ev->Option Ev) (mt:Ev->R Bool) (me:EV) (E:Ev) (σ:St) (H2 H3:Hp) (s3:Shared) (L C:Addr) (fp:List Addr) (tn:Nat->Heap->Prop) (ds all:List D)
  (n:Nat) (s':Shared) (i:Nat) (σi:St) (Hi:Hp) (vs:List V) (ys rest:List D):Prop where
 hn:n=ds.length-i
 hi:i<=ds.length
 Ii:Inv (cxc X scope s3 H3 fp C) [] σi Hi s'
 sti:tn i s'.heap
 fri:∀ b∈fp,Hi b=none
 hL:Hi L=some (.lst vs)
 rps:Rps X.K Hi (Ow (G.in E σ H2 L vs).pr (clr ts E) σi) ys vs
 ri:Rel X.K (G.in E σ H2 L vs) (clr ts E) σi Hi
 hσ:∀ j,j∉ts->σi[j]?=σ[j]?
 sm:Same H2 Hi
 hle:ys.length<=i
 hc:Gu set mt me (clr ts E) (ds.drop i)=.ok rest
 hall:all=ys++rest
theorem W2 {σ:St}{H2:Hp}{E:Ev}{ds all:List D}{it L C:Addr}{fp:List Addr}{tn:Nat->Heap->Prop}{J:It}{RR:Result->Shared->Prop}{s3:Shared}{H3:Hp}(calm:X.calm=true) (hx:∀ c,¬ G.xc c) (O:CompOk X G.xc elt tg ifs scope ts set mt me)
  (T:Turn X.prog X.w X.K tg J fp it tn) (itB:∀ (vs:List V) (E':Ev) (σ':St) (H':Hp),Rel X.K (G.in E σ H2 L vs) E' σ' H'->J.stop ds.length H'/\∀ (i:Nat) (d:D),ds[i]?=some d->J.go i H'/\∀ x H'',J.yld i H' x H''->Same H' H''/\Rp X.K H'' (Ow (G.in E σ H2 L vs).pr E' σ') d x)
  (hlen:ds.length<=1000000) (nL:H2 L=none)
  (fin:∀ (σe:St) (He:Hp) (vs:List V) (s1:Shared),Inv (cxc X scope s3 H3 fp C) [] σe He s1->He L=some (.lst vs)->Rps X.K He (Ow (G.in E σ H2 L vs).pr (clr ts E) σe) all vs->(∀ j,j∉ts->σe[j]?=σ[j]?)->Same H2 He->RR (.ok .next) s1)
  (s₀:Shared) (n:Nat) (i:Nat) (σi:St) (Hi:Hp) (vs:List V) (ys rest:List D) (hn:n=ds.length-i) (hi:i<=ds.length) (Ii:Inv (cxc X scope s3 H3 fp C) [] σi Hi s₀) (sti:tn i s₀.heap) (fri:∀ b∈fp,Hi b=none) (hL:Hi L=some (.lst vs))
  (rps:Rps X.K Hi (Ow (G.in E σ H2 L vs).pr (clr ts E) σi) ys vs) (ri:Rel X.K (G.in E σ H2 L vs) (clr ts E) σi Hi) (hσ:∀ j,j∉ts->σi[j]?=σ[j]?) (sm:Same H2 Hi) (hle:ys.length<=i) (hc:Gu set mt me (clr ts E) (ds.drop i)=.ok rest) (hall:all=ys++rest) :
  codeAny (model X.prog X.w) X.A (.compLoop (.ListComp elt [⟨tg,iter,ifs,0⟩] scope pos) 0 (.ref it) (.ref L) (cxc X scope s3 H3 fp C).env) RR s₀:=by
 refine S8 (λ n s'=>∃ (i:Nat) (σi:St) (Hi:Hp) (vs:List V) (ys rest:List D),CompI X G scope ts set mt me E σ H2 H3 s3 L C fp tn ds all n s' i σi Hi vs ys rest) ?_ n ⟨i,σi,Hi,vs,ys,rest,hn,hi,Ii,sti,fri,hL,rps,ri,hσ,sm,hle,hc,hall⟩
 clear hn hi Ii sti fri hL rps ri hσ sm hle hc hall
 rintro n s' ⟨i,σi,Hi,vs,ys,rest,rfl,hi,Ii,sti,fri,hL,rps,ri,hσ,sm,hle,hc,hall⟩
 obtain⟨stop,go⟩:=itB vs (clr ts E) σi Hi ri
 have okX:=Ii.ok
 have fpX:∀ {H':Hp},(∀ b∈fp,H' b=none)->∀ b∈fp,Vf (cxc X scope s3 H3 fp C) [] H' b:=λ hn b hb =>
  ⟨hn b hb,(okX.exf b hb).1,okX.exfs b hb,.inl hb,λ x c h=>(okX.exf b hb).2 x c h,λ p hp=>absurd hp (by simp [cxc])⟩
 by_cases hlt:i<ds.length
 ·obtain⟨go1,yl⟩:=go i ds[i] (by simp [hlt])
  rw [List.drop_eq_getElem_cons hlt] at hc
  unfold Gu at hc
  refine wpAny_mono (T.item (cxc X scope s3 H3 fp C) rfl rfl rfl calm i [] s' σi Hi (λ _ _=>False) Ii (fpX fri) sti go1) (?_) λ _ _ z=>z
  rintro r s1 ⟨u,hr,h1⟩
  subst hr
  refine wpAny_mono h1 (?_) λ _ _ z=>z
  rintro _ s2 ⟨x,Hy,Iy,rx,y1,sty,fry⟩
  obtain⟨sy,px⟩:=yl x Hy y1
  cases hse:set ds[i] (clr ts E) with
  | none=>rw [hse] at hc;cases hc
  | some E1 =>
  rw [hse] at hc
  dsimp only at hc
  have Iy':=Iy.pinned (fpX fry) (T.obj _ _ sty)
  obtain⟨g,hg,hset⟩:=O.hg s3 H3 fp C
  have ry:=ri.same sy
  -- the target
  refine wpAny_mono (hg _ s2 σi Hy x u _ Iy' rx (hset (G.in E σ H2 L vs) (clr ts E) E1 σi Hy ds[i] x (λ σ' H'=>H'=Hy/\(∀ j,j∉ts->σ'[j]?=σi[j]?)/\Rel X.K (G.in E σ H2 L vs) E1 σ' Hy) ry px hse λ σ' h1 h2=>⟨rfl,h1,h2⟩)) (?_) λ _ _ z=>z
  rintro _ s4 ⟨σ4,H4,I4,e4,hσ4,r4⟩
  have e4':=e4.symm
  subst e4'
  have hσ4':∀ j,j∉ts->σ4[j]?=σ[j]?:=λ j hj=>(hσ4 j hj).trans (hσ j hj)
  have eclr:clr ts E1=clr ts E:=by
   have:=O.hset _ _ _ hse
   rw [this]
   apply List.ext_getElem?
   intro j
   rw [Ly,Ly,Aaj]
   by_cases hj:j∈ts
   ·simp [hj]
   ·simp [hj]
  -- the iterator behind a state of the block
  have again:∀ {s9:Shared} {σ9:St} {H9:Hp},Inv (cxc X scope s3 H3 fp C) ([]++Qg fp s2.heap) σ9 H9 s9->Inv (cxc X scope s3 H3 fp C) [] σ9 H9 s9/\tn (i+1) s9.heap/\∀ b∈fp,H9 b=none:=λ {s9 σ9 H9} I9=>by
   refine⟨I9.unpinned,T.keep _ _ _ sty λ b hb o e=>(I9.pin (b,o) (List.mem_append_right _ (List.mem_append_right _ (G4 hb e)))).1,λ b hb=>?_⟩
   obtain⟨o,e,d⟩:=T.obj _ _ sty b hb
   exact (I9.pin (b,o) (List.mem_append_right _ (List.mem_append_right _ (G4 hb e)))).2.1
  have smy:Same H2 Hy:=sm.trans sy
  have hLy:Hy L=some (.lst vs):=sy _ _ hL
  -- the tests
  cases hmt:mt E1 with
  | er c=>rw [hmt] at hc;cases hc
  | no=>rw [hmt] at hc;cases hc
  | ok k =>
  rw [hmt] at hc
  simp only [R.ok_bind] at hc
  refine wpAny_mono (O.hc s3 H3 fp C (G.in E σ H2 L vs) rfl _ s4 σ4 Hy (λ b H'=>b=k/\Same Hy H') I4 ⟨E1,r4,by rw [hmt];exact λ H' s=>⟨rfl,s⟩⟩) (λ ok s5 ⟨H5,I5,e5,s5'⟩=>?_) λ _ _ z=>z
  subst e5
  have r5:=r4.same s5'
  cases ok with
  | false =>
   rw [if_neg Bool.false_ne_true] at hc ⊢
   obtain⟨J5,t5,n5⟩:=again I5
   refine⟨ds.length-(i+1),by omega,i+1,σ4,H5,vs,ys,rest,rfl,hlt,J5,t5,n5,s5' _ _ hLy,?_,?_,hσ4',smy.trans s5',by omega,hc,hall⟩
   ·refine rps.mono (sy.trans s5') λ b z=>?_
    rcases z with z|⟨j,d,z1,z2⟩
    ·exact .inl z
    ·obtain⟨hj,z3⟩:=Et (by intro q;cases q) z1
     exact .inr ⟨j,d,z1,by rw [<-hσ4 j hj];exact z2⟩
   ·rw [<-eclr];exact r5.clr
  | true =>
   rw [if_pos rfl] at hc ⊢
   cases hme:me E1 with
   | er c=>rw [hme] at hc;cases hc
   | no=>rw [hme] at hc;cases hc
   | ok y =>
   rw [hme] at hc
   simp only [R.ok_bind] at hc
   cases hrest:Gu set mt me (clr ts E) (ds.drop (i+1)) with
   | er c=>rw [hrest] at hc;cases hc
   | no=>rw [hrest] at hc;cases hc
   | ok zs =>
   rw [hrest] at hc
   simp only [R.ok_bind] at hc
   cases hc
   refine wpAny_mono (O.he s3 H3 fp C (G.in E σ H2 L vs) rfl _ s5 σ4 H5 (λ v H'=>Same H5 H'/\Rp X.K H' (Ow (G.in E σ H2 L vs).pr E1 σ4) y v) I5 ⟨E1,r5,by rw [hme];exact λ v H' s p=>⟨s,p⟩⟩) (λ z s6 ⟨v6,H6,I6,rv6,s6',p6⟩=>?_) λ _ _ z=>z
   have r6:=r5.same s6'
   have hL6:H6 L=some (.lst vs):=s6' _ _ (s5' _ _ hLy)
   have lv:vs.length<sizeLine:=by rw [rps.length,sizeLine_eq];omega
   refine wpAny_mono (Qq (X:=cxc X scope s3 H3 fp C) _ s6 σ4 H6 (.ref L) [v6] (.ref L) [z] (λ _ H'=>H'=upd H6 L (.lst (vs++[v6]))) I6 rfl (.cons rv6 .nil) ⟨L,vs,v6,rfl,rfl,hL6,lv,rfl⟩) (?_) λ _ _ z=>z
   rintro _ s7 ⟨_,H7,I7,_,e7⟩
   subst e7
   obtain⟨J7,t7,n7⟩:=again I7
   have hLo:Ow (G.in E σ H2 L vs).pr E1 σ4 L:=.inl (.inr rfl)
   have owsub:∀ b,Ow (G.in E σ H2 L (vs++[v6])).pr (clr ts E) σ4 b->Ow (G.in E σ H2 L vs).pr E1 σ4 b:=λ b z=>by
    rw [<-eclr] at z
    rcases z with z|⟨j,d,z1,z2⟩
    ·exact .inl z
    ·exact .inr ⟨j,d,(Et (by intro q;cases q) z1).2,z2⟩
   refine⟨ds.length-(i+1),by omega,i+1,σ4,_,vs++[v6],ys++[y],zs,rfl,hlt,J7,t7,n7,Aq,?_,?_,hσ4',?_,by simp;omega,hrest,by simp [hall]⟩
   ·refine Rps.append ?_ (Rps.cons ((p6.write hLo).mono (Same.refl _) owsub) Rps.nil)
    have q1:Rps X.K H6 (Ow (G.in E σ H2 L vs).pr (clr ts E) σ4) ys vs:=rps.mono (sy.trans (s5'.trans s6')) λ b z=>by
     rcases z with z|⟨j,d,z1,z2⟩
     ·exact .inl z
     ·obtain⟨hj,z3⟩:=Et (by intro q;cases q) z1
      exact .inr ⟨j,d,z1,by rw [<-hσ4 j hj];exact z2⟩
    exact q1.write (.inl (.inr rfl))
   ·have:=r6.clr (ts:=ts)
    rw [eclr] at this
    exact this.bump
   ·intro b o hb
    have hb':b≠L:=λ q=>by subst q;rw [nL] at hb;cases hb
    rw [Ah hb']
    exact s6' _ _ (s5' _ _ (smy _ _ hb))
 ·have e:i=ds.length:=by omega
  subst e
  rw [List.drop_length] at hc
  unfold Gu at hc
  cases hc
  rw [List.append_nil] at hall
  subst hall
  refine wpAny_mono (T.done (cxc X scope s3 H3 fp C) rfl rfl rfl calm ds.length [] s' σi Hi (λ _ _=>False) Ii (fpX fri) sti stop) (?_) λ _ _ z=>z
  rintro r s1 ⟨hr,I1⟩
  subst hr
  exact fin σi Hi vs s1 I1 hL rps hσ sm
theorem Uj {pins:List (Addr × Obj)}{σ:St}{H2:Hp}{s2:Shared}{E:Ev}{ds all:List D}{it:Addr}{fp:List Addr}{tn:Nat->Heap->Prop}{J:It}{Rr:Value->Addr->Result->Shared->Prop}(calm:X.calm=true) (hx:∀ c,¬ G.xc c) (O:CompOk X G.xc elt tg ifs scope ts set mt me)
  (I:Inv X pins σ H2 s2) (T:Turn X.prog X.w X.K tg J fp it tn) (st:tn 0 s2.heap) (f:∀ b∈fp,Vf X pins H2 b) (r:Rel X.K G E σ H2) (itok:Agt X.K (G.lock E σ H2) J ds) (hlen:ds.length<=1000000) (no:Aan ts E=true) (hall:Gu set mt me (clr ts E) ds=.ok all)
  (fin:∀ (L C:Addr) (He:Hp) (s':Shared) (m:Str->Option Value),H2 L=none->C≠X.env.locals->s'.heap.Ns C m->He C=none->(∀ x c,X.env.cells.lookup x=some c->c≠C)->C∉X.fs->X.s₀.heap.objs.size<=C->(∀ p∈X.pn++pins,p.1≠C)->(∀ h',(∀ b o,b≠C->s'.heap.get? b=some o->h'.get? b=some o)->Inv X pins σ He { s' with heap:=h' })->Same H2 He->Own X.K He (λ b=>Ow G.pr E σ b\/b=L) (.lst all) L->Rr (.ref L) C (.ok .next) s') :
  wpAny (model X.prog X.w) X.A (newList []) (λ acc s₃=>wpAny (model X.prog X.w) X.A (newFunctionEnv scope X.env.globals (Xm scope.names X.env []) [] X.env.qual none .none (some X.env)) (λ cenv s₄ =>
   codeAny (model X.prog X.w) X.A (.compStart (.ListComp elt [⟨tg,iter,ifs,0⟩] scope pos) 0 (.ref it) acc { cenv with scope:=relabel scope X.env }) (Rr acc cenv.locals) s₄) X.xe s₃) X.xe s2:=by
 refine wpAny_newObj_type (wpAny_newFunctionEnv O.S.nocell (by intro y hy;simp at hy) (λ h₁ hns₁ hsb₁=>?_) O.S.kind)
 dsimp only at hns₁ hsb₁ ⊢
 generalize hp3:s2.heap.push { cls:=.type "list",data:=.seq #[] }=h3 at hns₁ hsb₁ ⊢
 have hC:h3.objs.size=s2.heap.objs.size+1:=by rw [<-hp3,Heap.size_push]
 have k23:∀ b o,s2.heap.get? b=some o->h3.get? b=some o:=λ b o e=>by rw [<-hp3];exact Heap.get?_push_of_some _ e
 have nL:H2 s2.heap.objs.size=none:=I.hok.fresh (Nat.le_refl _)
 have I3:Inv X pins σ (upd H2 s2.heap.objs.size (.lst [])) { s2 with heap:=h3,toks:=s2.toks }:=by
  rw [<-hp3]
  exact I.laid (a:=s2.heap.objs.size) (o:=.lst []) (t':=s2.toks) (λ _ _ q=>Heap.get?_push_of_some _ q) (Nat.le_refl _) ⟨Nat.zero_le _,[],0,.nil,Heap.get?_push_size _ rfl⟩
 have lt2:∀ b∈fp,b<s2.heap.objs.size:=λ b hb=>by obtain⟨o,e,_⟩:=T.obj 0 _ st b hb;exact Heap.lt_size e
 have lt3:∀ b∈fp,b<h3.objs.size:=λ b hb=>by rw [hC];exact Nat.lt_succ_of_lt (lt2 b hb)
 have f3:∀ b∈fp,Vf X pins (upd H2 s2.heap.objs.size (.lst [])) b:=λ b hb=>⟨by rw [Ah (Nat.ne_of_lt (lt2 b hb))];exact (f b hb).1,(f b hb).2⟩
 have k34:∀ b o,h3.get? b=some o->h₁.get? b=some o:=λ b o e=>hsb₁.extBut b o (Nat.ne_of_lt (Heap.lt_size e)) (Heap.get?_push_of_some _ e)
 have IB:=Aah O.S I3 f3 (λ b hb=>lt3 b hb) O.loc (h':=h₁) (by simpa using hns₁) k34 (tk:=s2.toks+([]:List (Str × Value)).length)
 have st4:tn 0 h₁:=T.keep _ _ _ st λ b hb o e=>k34 b o (k23 b o e)
 have rB:=r.block (ts:=ts) nL
 have itB:∀ (vs:List V) (E':Ev) (σ':St) (H':Hp),Rel X.K (G.in E σ H2 s2.heap.objs.size vs) E' σ' H'->_:=λ vs E' σ' H' r'=>itok _ E' σ' H' (Ajr nL) r'
 have loop:=W2 (X:=X) (pos:=pos) (iter:=iter) (RR:=Rr (.ref s2.heap.objs.size) h3.objs.size) (s3:={ s2 with heap:=h3,toks:=s2.toks }) (H3:=upd H2 s2.heap.objs.size (.lst [])) (C:=h3.objs.size) calm hx O T itB hlen nL (λ σe He vs s1 Ie hL rps hσ sm=>by
   obtain⟨m,hns,_⟩:=Ie.loc
   have hns:s1.heap.Ns h3.objs.size m:=hns
   have hCn:He h3.objs.size=none:=Ie.free
   refine fin s2.heap.objs.size h3.objs.size He s1 m nL (Nat.ne_of_gt I3.lt) hns hCn (λ x c e z=>?_) (I3.nofs (Nat.le_refl _)) I3.sz (λ p hp z=>?_) (λ h' k=>?_) sm ⟨vs,hL,rps.mono (Same.refl _) λ b z=>?_⟩
   ·obtain⟨v,q⟩:=I3.cell x c e
    have:=q.lt
    rw [z] at this
    exact absurd this (Nat.lt_irrefl _)
   ·have:=Heap.lt_size (I3.pin p hp).1
    rw [z] at this
    exact absurd this (Nat.lt_irrefl _)
   ·have u:Un (frs X.stack) fp (upd H2 s2.heap.objs.size (.lst [])) He h3 h':=Un.post (C:=h3.objs.size) Ie.base k λ b o e=>Nat.ne_of_lt (Heap.lt_size e)
    refine I3.call' (s':={ s1 with heap:=h' }) Ie.os u (HOk.post Ie.hok hCn k) Ie.bare λ b hb=>?_
    obtain⟨_,q1,q2,q3,q4,q5⟩:=f3 b hb
    exact⟨q3,q1,q4,q5⟩
   ·rcases z with z|z
    ·rcases Afc (pr:=G.pr) no hσ z with z|z
     ·exact .inl (.inl z)
     ·exact .inr z
    ·exact .inl (.inr z))
  { s2 with heap:=h₁,toks:=s2.toks+([]:List (Str × Value)).length } ds.length 0 (Yr ts σ) _ [] [] all (by simp) (Nat.zero_le _) IB st4 (λ b hb=>(f3 b hb).1) Aq Rps.nil rB (λ j hj=>by rw [Ka,if_neg hj]) (Ar nL) (Nat.le_refl _) (by simpa using hall) rfl
 exact codeAny_compStart_list loop (T.self _ 0 _ _ _ st4 loop)
theorem K7 (gd:Gd X) (hx:∀ c,¬ G.xc c) (hi:SI X G tg iter mi) (O:CompOk X G.xc elt tg ifs scope ts set mt me) (hs:∀ x,foldedSetIterable iter X.env x=pure x:=by intro _;rfl):SN X G (.ListComp elt [⟨tg,iter,ifs,0⟩] scope pos) (Fd ts set mi mt me):=by
 rintro pins s σ H Q I ⟨E,hr,f⟩
 unfold Fd at f
 split at f
 ·rename_i no
  rw [eval_ListComp]
  have hclos:closureFor scope X.env=pure (Xm scope.names X.env []):=Nf λ p hp hf=>I.ok.has p.1 (O.S.free p hp hf)
  refine wpAny_comprehension_free (use:=none) rfl hs hclos O.S.kind (λ y hy hl=>by rw [<-hl];exact O.S.names y hy) ?_
  refine thn (hi pins s σ H (λ J H1=>∃ ds all,Same H H1/\Agt X.K (G.lock E σ H1) J ds/\ds.length<=1000000/\Gu set mt me (clr ts E) ds=.ok all/\∀ a H',Same H H'->H a=none->Own X.K H' (λ b=>Ow G.pr E σ b\/b=a) (.lst all) a->Q (.ref a) H') I ⟨E,hr,(Fin.bind f).mono λ ds p J H1 s1 it=>?_⟩) λ v s1 h1=>thn h1 λ itv s2 zz=>?_
  ·split at p
   ·rename_i hl
    cases hc:Gu set mt me (clr ts E) ds with
    | no=>rw [hc] at p;exact p.elim
    | er c=>rw [hc] at p;exact absurd p (hx c)
    | ok all=>rw [hc] at p;exact⟨ds,all,s1,it,hl,hc,p⟩
   ·exact p.elim
  ·obtain⟨it,fp,tn,J,H2,e,I2,T,st,fo,ds,all,s12,ito,hl,hc,q⟩:=zz
   subst e
   refine Uj (Rr:=λ acc C=>compPost (model X.prog X.w) X.A X.xe none (EP X pins σ Q) acc C) gd.calm hx O I2 T st fo (hr.same s12) ito hl no hc λ L C He s' m nL _ ns nC _ _ _ _ inv sm own=>?_
   refine⟨m,ns,λ h' sb=>⟨.ref L,He,inv h' λ b o hb e=>sb.extBut b o hb e,rfl,q L He (s12.trans sm) ?_ own⟩⟩
   cases z:H L with
   | none=>rfl
   | some o=>rw [s12 _ _ z] at nL;cases nL
 ·exact f.elim
theorem Vs {y:Str}{py spos:Pos}{i:Nat}{Qn:D->Addr->St->Hp->Prop}(gd:Gd X) (hx:∀ c,¬ G.xc c) (hi:SI X G tg iter mi) (O:CompOk X G.xc elt tg ifs scope ts set mt me) (hN:X.N[i]?=some y) (hy:Loc X.env.scope y) (hf:X.fn y=true\/X.env.scope.names.lookup y=some .local)
  (hsw:swapsWith (.ListComp elt [⟨tg,iter,ifs,0⟩] scope pos) (some (.Name y py)) spos.line X.env=pure true) (hs:∀ x,foldedSetIterable iter X.env x=pure x) {pins:List (Addr × Obj)} {s:Shared} {σ:St} {H:Hp} {E:Ev} {Dn:Ends} (I:Inv X pins σ H s) (hr:Rel X.K G E σ H)
  (f:Fin (Fd ts set mi mt me E) (λ d=>∀ a H',Abz d=false->Same H H'->H a=none->Own X.K H' (λ b=>Ow G.pr E σ b\/b=a) d a->Dn.nx (σ.set i (some (.ref a))) H') G.xc) :
  wpAny (model X.prog X.w) X.A (exec (.Assign [.Name y py] (.ListComp elt [⟨tg,iter,ifs,0⟩] scope pos) spos) X.env) (SP X pins Dn) X.xe s:=by
 unfold Fd at f
 split at f
 ·rename_i no
  rw [exec_Assign_Name_used _ _ _ _ hsw]
  refine wpAny_bind (wpAny_standAt (wpAny_bind ?_))
  have hclos:closureFor scope X.env=pure (Xm scope.names X.env []):=Nf λ p hp hf=>I.ok.has p.1 (O.S.free p hp hf)
  show wpAny _ X.A (do let _ ← comprehension (.ListComp elt [⟨tg,iter,ifs,0⟩] scope pos) scope X.env _ (newList []) false (eval iter X.env) (some (assign (.Name y py) X.env))) _ _ s
  refine wpAny_bind (wpAny_mono (wpAny_comprehension_free (use:=some (assign (.Name y py) X.env)) (Q:=λ _ s'=>SP X pins Dn .next s') rfl hs hclos O.S.kind (λ y hy hl=>by rw [<-hl];exact O.S.names y hy)
   ?_) (λ _ s' hq=>wpAny_pure (wpAny_pure hq)) λ _ _ e=>e)
  refine thn (hi pins s σ H (λ J H1=>∃ ds all,Same H H1/\Agt X.K (G.lock E σ H1) J ds/\ds.length<=1000000/\Gu set mt me (clr ts E) ds=.ok all/\∀ a H',Same H H'->H a=none->Own X.K H' (λ b=>Ow G.pr E σ b\/b=a) (.lst all) a->Dn.nx (σ.set i (some (.ref a))) H') I ⟨E,hr,(Fin.bind f).mono λ ds p J H1 s1 it=>?_⟩) λ v s1 h1=>thn h1 λ itv s2 zz=>?_
  ·split at p
   ·rename_i hl
    cases hc:Gu set mt me (clr ts E) ds with
    | no=>rw [hc] at p;exact p.elim
    | er c=>rw [hc] at p;exact absurd p (hx c)
    | ok all=>rw [hc] at p;exact⟨ds,all,s1,it,hl,hc,λ a H'=>p a H' rfl⟩
   ·exact p.elim
  ·obtain⟨it,fp,tn,J,H2,e,I2,T,st,fo,ds,all,s12,ito,hl,hc,q⟩:=zz
   subst e
   refine Uj (Rr:=λ acc C=>compPost (model X.prog X.w) X.A X.xe (some (assign (.Name y py) X.env)) (λ _ s'=>SP X pins Dn .next s') acc C) gd.calm hx O I2 T st fo (hr.same s12) ito hl no hc λ L C He s' m nL hCL ns nC hcell hfs habove hpn inv sm own=>?_
   obtain⟨oC,es,ep,hoC,hdC,hkC,hmC⟩:=id ns
   have I':Inv X pins σ He s':=inv s'.heap λ b o _ e=>e
   have Ip:Inv X (pins++[(C,oC)]) σ He s':=I'.pins_of λ p hp=>by
    rcases List.mem_append.mp hp with hp|hp
    ·exact I'.pin p (List.mem_append_right _ hp)
    ·have:p=(C,oC):=by simpa using hp
     subst this
     exact⟨hoC,nC,hCL,hfs,λ v z=>by rw [hdC] at z;cases z⟩
   refine thn (Ob (pos:=py) gd.nd hN hy hf (pins++[(C,oC)]) s' σ He (.ref L) (.ref L) (λ σ' H'=>σ'=σ.set i (some (.ref L))/\H'=He) Ip rfl ⟨rfl,rfl⟩) ?_
   rintro _ s'' ⟨σ',H',J',e1,e2⟩
   subst e1 e2
   have keepC:=(J'.pin (C,oC) (List.mem_append_right _ (List.mem_append_right _ (by simp)))).1
   refine⟨m,⟨oC,es,ep,keepC,hdC,hkC,hmC⟩,λ h' sb=>⟨_,_,(J'.unpinned).turned (t':=s''.toks) (it:=C) (λ b o hb e=>sb.extBut b o hb e) nC hCL (.inr habove) hcell hpn,q L _ (s12.trans sm) ?_ own⟩⟩
   cases z:H L with
   | none=>rfl
   | some o=>rw [s12 _ _ z] at nL;cases nL
 ·exact f.elim
theorem Af3 (i:Nat) {y:Str}{py spos:Pos}(gd:Gd X) (hx:∀ c,¬ G.xc c) (hi:SI X G tg iter mi) (O:CompOk X G.xc elt tg ifs scope ts set mt me) (hN:X.N[i]?=some y:=by rfl) (hy:Loc X.env.scope y:=by first|exact Or.inl rfl|exact Or.inr rfl) (hf:X.fn y=true\/X.env.scope.names.lookup y=some .local:=by first|exact .inl rfl|exact .inr rfl|assumption)
  (hsw:swapsWith (.ListComp elt [⟨tg,iter,ifs,0⟩] scope pos) (some (.Name y py)) spos.line X.env=pure true:=by rfl) (hs:∀ x,foldedSetIterable iter X.env x=pure x:=by intro _;rfl) :
  SS X G (.Assign [.Name y py] (.ListComp elt [⟨tg,iter,ifs,0⟩] scope pos) spos) (Es i (Fd ts set mi mt me)):=λ pins s σ H Dn I ⟨E,hr,f⟩ =>
 Vs (Qn:=λ _ _ _ _=>True) gd hx hi O hN hy hf hsw hs I hr ((Fin.bind f).mono λ d p a H' hd s n own=>p _ _ ((hr.same s).setF ((own.mono (Same.refl _) λ _ z=>.inl z).rp (hr.fresh n) hd)))
end
end M

set_option Elab.async false
set_option linter.all false
set_option maxRecDepth 100000
namespace M
open PySem PySem.Spec PyProof.Rows L2

theorem J4 {X:Cx}{pins:List (Addr × Obj)}{σ:St}{H:Hp}{s:Shared}{h':Heap}{t':Nat}{ch:List Addr}{T:Addr}{o:HO}(I:Inv X pins σ H s) (hch:∀ b∈ch,Vf X pins H b)
  (k:∀ b o,b∉ch->s.heap.get? b=some o->h'.get? b=some o) (hT:s.heap.objs.size<=T) (new:Cp X.prog X.w (upd H T o) h' T o):Inv X pins σ (upd H T o) { s with heap:=h',toks:=t' }:=by
 have hnT:H T=none:=I.hok.fresh hT
 have nT:∀ b ob,s.heap.get? b=some ob->b≠T:=λ b ob e=>Nat.ne_of_lt (Nat.lt_of_lt_of_le (Heap.lt_size e) hT)
 have nit:∀ b u,H b=some u->b∉ch:=λ b u e z=>by rw [(hch b z).1] at e;cases e
 refine I.step (g':=s.gens) (d':=s.drawn) (ch:=ch) (λ b hb=>?_) (λ b o _ _ hc e _=>k b o hc e) (λ b o _ _ hc e _=>⟨o.slots,k b o hc e⟩) (λ b ob _ e n=>by rw [Ah (nT b ob e)];exact n)
  (λ b o hc e=>by
   exact⟨o,k b o hc e⟩) (λ b xs e=>by rw [Ah (Aw e hnT)];exact e) (λ b u xs e=>by rw [Ah (Aw e hnT)];exact e) (λ b ps e=>⟨#[],by rw [Ah (Aw e hnT),e];simp⟩) (λ m hm=>?_) (λ b u e=>?_) I.bare
 ·obtain⟨_,q1,q2,q3,q4,q5⟩:=hch b hb
  exact⟨q3,q1,q4,q5⟩
 ·obtain⟨ob,es,ep,ho,r⟩:=hm
  exact⟨ob,es,ep,k _ ob (λ z=>(hch _ z).2.1 rfl) ho,r⟩
 ·by_cases hb:b=T
  ·subst hb;rw [Aq] at e;cases e;exact new
  ·rw [Ah hb] at e
   refine (I.hok b u e).stay (λ c v hc q=>k c v ?_ q) (λ c q=>by rw [Ah (Aw q hnT)];exact q) λ c xs q=>by rw [Ah (Aw q hnT)];exact q
   rcases hc with z|z
   ·rw [z];exact nit b u e
   ·exact nit c _ z
noncomputable def Itz (K:PySem.W.Frag) (a b:Addr):It :=
 ⟨λ i H=>∃ xs ys x y,SqL K H a xs/\SqL K H b ys/\xs[i]?=some x/\ys[i]?=some y,
  λ i H v H'=>∃ T x y,v=.ref T/\H T=none/\H'=upd H T (.tup [x,y])/\(∀ xs,SqL K H a xs->xs[i]?=some x)/\∀ ys,SqL K H b ys->ys[i]?=some y,
  λ i H=>∃ xs ys,SqL K H a xs/\SqL K H b ys/\i=min xs.length ys.length⟩
theorem Acb {P:Program}{w:World}{K:PySem.W.Frag}{elts:List Expr}{k:Nat}{pos:Pos}(a b z TI TO i1 i2:Addr) (D:ZipApart z TI TO i1 i2 a b) :
  Turn P w K (.Tuple elts k pos) (Itz K a b) [z,TI,TO,i1,i2] z (λ i h=>IsZip h z TI TO .none/\IsPair h TI (.ref i1) (.ref i2)/\(∃ u v,IsPair h TO u v)/\h.IsListIter i1 a i/\h.IsListIter i2 b i) where
 mem:=by simp
 obj:=λ i h st c hc=>by
  obtain⟨h1,h2,⟨u,v,h3⟩,⟨o4,e4,c4,d4⟩,⟨o5,e5,c5,d5⟩⟩:=st
  simp only [List.mem_cons,List.not_mem_nil,or_false] at hc
  rcases hc with rfl|rfl|rfl|rfl|rfl
  ·exact⟨_,h1,λ v z=>nomatch z⟩
  ·exact⟨_,h2,λ v z=>nomatch z⟩
  ·exact⟨_,h3,λ v z=>nomatch z⟩
  ·exact⟨_,e4,λ v z=>by rw [d4] at z;cases z⟩
  ·exact⟨_,e5,λ v z=>by rw [d5] at z;cases z⟩
 keep:=λ i h h' st k=>by
  obtain⟨h1,h2,⟨u,v,h3⟩,h4,h5⟩:=st
  exact⟨k z (by simp) _ h1,k TI (by simp) _ h2,⟨u,v,k TO (by simp) _ h3⟩,h4.at λ o e=>k i1 (by simp) o e,h5.at λ o e=>k i2 (by simp) o e⟩
 item:=by
  intro X hP hw hK hc i pins s σ H E I hf st hg
  subst hP hw hK
  obtain⟨xs,ys,x,y,hq1,hq2,hx,hy⟩:=hg
  obtain⟨its1,rv1,p1,hz1⟩:=I.list hq1
  obtain⟨its2,rv2,p2,hz2⟩:=I.list hq2
  obtain⟨u1,hu1,ru1⟩:=rv1.get hx
  obtain⟨u2,hu2,ru2⟩:=rv2.get hy
  obtain⟨h1,h2,h3,h4,h5⟩:=st
  have W:=WalksT.zip2 (prog:=X.prog) (w:=X.w) (A:=X.A) (I.ok.hd hc) z TI TO i1 i2 a b D its1.toArray its2.toArray
  have l1:i<its1.length:=(List.getElem?_eq_some_iff.mp hu1).1
  have l2:i<its2.length:=(List.getElem?_eq_some_iff.mp hu2).1
  refine W.item i s _ E (by simp;omega) ⟨h1,h2,h3,h4,h5,p1.isList,p2.isList⟩ λ T vals h' tk hv hT hTu hM hk=>?_
  obtain⟨v1,v2,e1,e2,rfl⟩:=hv
  have e1':v1=u1:=by
   have:its1[i]?=some v1:=by simpa using e1
   rw [hu1] at this;exact (Option.some.inj this).symm
  have e2':v2=u2:=by
   have:its2[i]?=some v2:=by simpa using e2
   rw [hu2] at this;exact (Option.some.inj this).symm
  subst e1' e2'
  refine⟨.ref T,rfl,?_⟩
  have hap:=W.apart i T h' hM
  refine W.go elts k pos i T { s with heap:=h',toks:=tk } _ E hM λ h'' hst'' hk''=>?_
  have nT:H T=none:=I.hok.fresh hT
  obtain⟨oT,eT,cT,nn,dT⟩:=hTu
  have eT':=hk'' T oT hap eT
  have sub:∀ c,c∉[z,TI,TO,i1,i2]->c∉[z,TO,i1,i2]:=λ c hc hc'=>hc (by
   simp only [List.mem_cons,List.not_mem_nil,or_false] at hc' ⊢
   rcases hc' with h|h|h|h
   ·exact .inl h
   ·exact .inr (.inr (.inl h))
   ·exact .inr (.inr (.inr (.inl h)))
   ·exact .inr (.inr (.inr (.inr h))))
  have I':Inv X pins σ (upd H T (.tup [x,y])) { s with heap:=h'',toks:=tk }:=J4 I hf (λ c o hc e=>hk'' c o (sub c hc) (hk c o (sub c hc) e)) hT
   ⟨by rw [sizeLine_eq];simp,[v1,v2],.cons ru1 (.cons ru2 .nil),oT,eT',cT,nn,dT⟩
  obtain⟨g1,g2,g3,g4,g5,_,_⟩:=hst''
  refine⟨.ref T,_,I',rfl,⟨T,x,y,rfl,nT,rfl,λ zs hz=>by rw [I.list_inj hz hq1];exact hx,λ zs hz=>by rw [I.list_inj hz hq2];exact hy⟩,⟨g1,g2,g3,g4,g5⟩,λ c hc=>?_⟩
  have hlt:c<s.heap.objs.size:=by
   obtain⟨u,v,h3⟩:=h3
   obtain⟨o4,e4,_⟩:=h4
   obtain⟨o5,e5,_⟩:=h5
   simp only [List.mem_cons,List.not_mem_nil,or_false] at hc
   rcases hc with rfl|rfl|rfl|rfl|rfl
   ·exact Heap.lt_size h1
   ·exact Heap.lt_size h2
   ·exact Heap.lt_size h3
   ·exact Heap.lt_size e4
   ·exact Heap.lt_size e5
  rw [Ah (Nat.ne_of_lt (Nat.lt_of_lt_of_le hlt hT))]
  exact (hf c hc).1
 done:=by
  intro X hP hw hK hc i pins s σ H E I hf st hg
  subst hP hw hK
  obtain⟨xs,ys,hq1,hq2,hi⟩:=hg
  obtain⟨its1,rv1,p1,hz1⟩:=I.list hq1
  obtain⟨its2,rv2,p2,hz2⟩:=I.list hq2
  obtain⟨h1,h2,h3,h4,h5⟩:=st
  have W:=WalksT.zip2 (prog:=X.prog) (w:=X.w) (A:=X.A) (I.ok.hd hc) z TI TO i1 i2 a b D its1.toArray its2.toArray
  have en:min its1.toArray.size its2.toArray.size=i:=by
   rw [hi,List.size_toArray,List.size_toArray,rv1.length,rv2.length]
  refine W.done s _ E (by rw [en];exact⟨h1,h2,h3,h4,h5,p1.isList,p2.isList⟩) λ h' tk hk=>⟨rfl,?_⟩
  have nit:∀ b u,H b=some u->b∉[z,TI,TO,i1,i2]:=λ b u e q=>by rw [(hf b q).1] at e;cases e
  have sub:∀ c,c∉[z,TI,TO,i1,i2]->c∉[z,TO,i1,i2]:=λ c hc hc'=>hc (by
   simp only [List.mem_cons,List.not_mem_nil,or_false] at hc' ⊢
   rcases hc' with h|h|h|h
   ·exact .inl h
   ·exact .inr (.inr (.inl h))
   ·exact .inr (.inr (.inr (.inl h)))
   ·exact .inr (.inr (.inr (.inr h))))
  have k:∀ b o,b∉[z,TI,TO,i1,i2]->s.heap.get? b=some o->h'.get? b=some o:=λ b o hb e=>hk b o (sub b hb) e
  refine I.step (g':=s.gens) (d':=s.drawn) (ch:=[z,TI,TO,i1,i2]) (λ b hb=>?_) (λ b o _ _ hc e _=>k b o hc e) (λ b o _ _ hc e _=>⟨o.slots,k b o hc e⟩) (λ b ob _ e n=>n)
   (λ b o hc e=>⟨o,k b o hc e⟩) (λ b xs e=>e) (λ b u xs e=>e) (λ b ps e=>⟨#[],by rw [e];simp⟩) (λ m hm=>?_) (λ b u e=>?_) I.bare
  ·obtain⟨_,q1,q2,q3,q4,q5⟩:=hf b hb
   exact⟨q3,q1,q4,q5⟩
  ·obtain⟨ob,es,ep,ho,r⟩:=hm
   exact⟨ob,es,ep,k _ ob (λ z=>(hf _ z).2.1 rfl) ho,r⟩
  ·refine (I.hok b u e).stay (λ c v hc q=>k c v ?_ q) (λ c q=>q) λ c xs q=>q
   rcases hc with z|z
   ·rw [z];exact nit b u e
   ·exact nit c _ z
 self:=λ _ _ _ _ _ st h=>wpAny_pyIter_zip st.1 h

section
variable {X:Cx}{G:Fc}{a b:Expr}{p pos tpos:Pos}{elts:List Expr}{tk:Nat}
noncomputable def Apn (K:PySem.W.Frag) (ta:TA):TI:=λ σ H Rr=>ta σ H λ vs H1=>∃ a b,vs=[.ref a,.ref b]/\(∃ xs,SqL K H1 a xs)/\(∃ ys,SqL K H1 b ys)/\Rr (Itz K a b) H1
theorem Ai3 {ta:TA}(hg:Gl X "zip") (hm:X.mg "zip"=none) (ha:PA X [a,b] ta) (hs:starEach [a,b] X.env=[(false,eval a X.env),(false,eval b X.env)]:=by rfl) (hs2:starEach [b] X.env=[(false,eval b X.env)]:=by rfl) :
  PI X (.Tuple elts tk tpos) (.Call (.Name "zip" p) [a,b] [] pos) (Apn X.K ta):=by
 intro pins s σ H Rr I h
 refine Call_ (Ls I hg hm boot_zip (PyProof.Rows.callWith_type1 (thn (ha pos pins s σ H _ I h) λ us s1 ⟨vs,H1,I1,r1,q1⟩=>?_) (by rw [hs,hs2]) (by rw [hs2];rfl)))
 obtain⟨l1,l2,e,⟨xs,hx⟩,⟨ys,hy⟩,q⟩:=q1
 subst e
 cases r1 with
 | cons r rr =>
  cases rr with
  | cons r' rr =>
   cases rr
   cases r
   cases r'
   obtain⟨its1,rv1,p1,hz1⟩:=I1.list hx
   obtain⟨its2,rv2,p2,hz2⟩:=I1.list hy
   have hlt1:l1<s1.heap.objs.size:=by obtain⟨o,e,_⟩:=p1.isList;exact Heap.lt_size e
   have hlt2:l2<s1.heap.objs.size:=by obtain⟨o,e,_⟩:=p2.isList;exact Heap.lt_size e
   refine call_zip_2 p1.isList p2.isList λ h' hz hTI hTO hi1 hi2 hsz hk=>?_
   refine wpAny_pyIter_zip hz ?_
   have D:ZipApart (s1.heap.objs.size+4) (s1.heap.objs.size+2) (s1.heap.objs.size+3) s1.heap.objs.size (s1.heap.objs.size+1) l1 l2:=PySem.W.ktu_apart _ _ _ hlt1 hlt2
   refine⟨_,[s1.heap.objs.size+4,s1.heap.objs.size+2,s1.heap.objs.size+3,s1.heap.objs.size,s1.heap.objs.size+1],_,_,H1,rfl,I1.kept (t':=s1.toks) hk,Acb l1 l2 _ _ _ _ _ D,⟨hz,hTI,⟨_,_,hTO⟩,hi1,hi2⟩,λ c hc=>?_,q⟩
   have hge:s1.heap.objs.size<=c:=by
    simp only [List.mem_cons,List.not_mem_nil,or_false] at hc
    rcases hc with rfl|rfl|rfl|rfl|rfl
    ·exact Nat.le_add_right _ _
    ·exact Nat.le_add_right _ _
    ·exact Nat.le_add_right _ _
    ·exact Nat.le_refl _
    ·exact Nat.le_add_right _ _
   exact I1.fpOk hge (I1.hok.fresh hge)
noncomputable def iZ (ma mb:EV):Ev->R (List D):=λ E=>ma E >>= λ x=>mb E >>= λ y=>match x,y with
 | .lst xs,.lst ys=>.ok (List.zipWith (λ a b=>D.tup [a,b]) xs ys)
 | _,_=>.no
theorem Adn {ma mb:EV}(hg:Gl X "zip") (hm:X.mg "zip"=none) (ha:SF X G a ma) (hb:SF X G b mb) (hs:starEach [a,b] X.env=[(false,eval a X.env),(false,eval b X.env)]:=by rfl) (hs2:starEach [b] X.env=[(false,eval b X.env)]:=by rfl) :
  SI X G (.Tuple elts tk tpos) (.Call (.Name "zip" p) [a,b] [] pos) (iZ ma mb) :=
 (Ai3 hg hm (Br ha (Br hb Ea hs2) (by rw [hs,hs2])) hs hs2).imp λ σ H Q z0=>z0.elim λ E z0=>z0.elim λ hr f=>⟨E,hr,(Fin.bind f).mono λ d p v H1 s1 z=>⟨E,hr.same s1,(Fin.bind p).mono λ e p w H2 s2 y=>by
  cases d with
  | lst xs =>
   cases e with
   | lst ys =>
    have z:=z.mono s2 λ _ q=>q
    unfold Rp at z y
    obtain⟨l1,vs,rfl,no1,h1,r1⟩:=z
    obtain⟨l2,ws,rfl,no2,h2,r2⟩:=y
    refine⟨l1,l2,rfl,⟨vs,SqL.of h1⟩,⟨ws,SqL.of h2⟩,p _ H2 (s1.trans s2) λ G' E' σ' H' le r'=>?_⟩
    have h1':=(locked le r' _ _ no1 h1).1
    have h2':=(locked le r' _ _ no2 h2).1
    refine⟨⟨vs,ws,SqL.of h1',SqL.of h2',by rw [List.length_zipWith,r1.length,r2.length]⟩,λ i d hd=>?_⟩
    have hd':∃ dx dy,xs[i]?=some dx/\ys[i]?=some dy/\d=.tup [dx,dy]:=by
     rw [List.getElem?_zipWith] at hd
     cases e1:xs[i]? with
     | none=>rw [e1] at hd;simp at hd
     | some dx =>
      cases e2:ys[i]? with
      | none=>rw [e1,e2] at hd;simp at hd
      | some dy=>rw [e1,e2] at hd;simp at hd;exact⟨dx,dy,rfl,rfl,hd.symm⟩
    obtain⟨dx,dy,e1,e2,rfl⟩:=hd'
    obtain⟨vx,hvx,px⟩:=r1.get e1
    obtain⟨vy,hvy,py⟩:=r2.get e2
    refine⟨⟨vs,ws,vx,vy,SqL.of h1',SqL.of h2',hvx,hvy⟩,?_⟩
    rintro x H'' ⟨T,ux,uy,ex,nT,eH,q1,q2⟩
    subst ex eH
    have a1:=q1 vs (SqL.of h1')
    have a2:=q2 ws (SqL.of h2')
    rw [hvx] at a1;cases a1
    rw [hvy] at a2;cases a2
    refine⟨Ar nT,?_⟩
    unfold Rp
    refine⟨T,[vx,vy],rfl,r'.fresh nT,Aq,Rps.cons ?_ (Rps.cons ?_ Rps.nil)⟩
    ·exact (px.move (locked le r')).mono (Ar nT) λ _ q=>q
    ·exact (py.move (locked le r')).mono (Ar nT) λ _ q=>q
   | _=>exact p.elim
  | _=>exact p.elim⟩⟩
end
end M

set_option Elab.async false
set_option linter.all false
set_option maxRecDepth 100000
namespace M
open PySem PySem.Spec PyProof.Rows L2

noncomputable def CallD (K:PySem.W.Frag) (r:List V->Hp->VK->Prop) (f:D->Option D):Prop :=
 ∀ (H:Hp) (O:Addr->Prop) (dx d:D) (v:V) (Q:VK),Sane H O->f dx=some d->Rt K H O dx v->(∀ u H',Same H H'->Rp K H' O d u->Q u H')->r [v] H Q
noncomputable def Aiw (K:PySem.W.Frag) (r:List V->Hp->VK->Prop) (f:D->Option D):Prop :=
 ∀ (H:Hp) (O:Addr->Prop) (dx d:D) (v:V) (Q:VK),Sane H O->f dx=some d->Rt K H O dx v->(∀ a H',Same H H'->H a=none->Own K H' (λ b=>O b\/b=a) d a->Q (.ref a) H')->r [v] H Q
section
variable {X:Cx}{G:Fc}{r:List V->Hp->VK->Prop}{f:D->Option D}{x:Str}{p pos:Pos}{e:Expr}{m:EV}
theorem Oq {id:String}(hc:Fq X (.builtin id) r) (hf:CallD X.K r f) (hg:Gl X x) (hm:X.mg x=none) (hv:bootBuiltins x=some (.builtin id)) (he:SE X G e m) (hn:x≠"__name__":=by decide) (hdb:(x == ("__debug__":Str))=false:=by decide)
  (hs:starEach [e] X.env=(false,eval e X.env) :: starEach [] X.env:=by rfl) (hpl:(backTo pos (starEach [] X.env)).any (·.1)=false:=by rfl):SF X G (.Call (.Name x p) [e] [] pos) (e1 f m) :=
 (J2 hc hg hm hv (Br he Ea hs) hn hdb hs hpl).imp λ σ H Q z0=>z0.elim λ E z0=>z0.elim λ hr h=>⟨E,hr,(Fin.bind h).mono λ dx fx v H1 s1 p1=>by
  obtain⟨d,e,q⟩:=Fin.of fx
  exact hf H1 _ dx d v Q (hr.same s1).sane e p1 λ u H' s z=>q u H' (s1.trans s) z⟩
theorem Acl {id:String}(hc:Fq X (.builtin id) r) (hf:Aiw X.K r f) (hg:Gl X x) (hm:X.mg x=none) (hv:bootBuiltins x=some (.builtin id)) (he:SE X G e m) (hn:x≠"__name__":=by decide) (hdb:(x == ("__debug__":Str))=false:=by decide)
  (hs:starEach [e] X.env=(false,eval e X.env) :: starEach [] X.env:=by rfl) (hpl:(backTo pos (starEach [] X.env)).any (·.1)=false:=by rfl):SN X G (.Call (.Name x p) [e] [] pos) (e1 f m) :=
 (J2 hc hg hm hv (Br he Ea hs) hn hdb hs hpl).imp λ σ H Q z0=>z0.elim λ E z0=>z0.elim λ hr h=>⟨E,hr,(Fin.bind h).mono λ dx fx v H1 s1 p1=>by
  obtain⟨d,e,q⟩:=Fin.of fx
  refine hf H1 _ dx d v Q (hr.same s1).sane e p1 λ a H' s n z=>q a H' (s1.trans s) ?_ z
  cases w:H a with
  | none=>rfl
  | some o=>rw [s1 _ _ w] at n;cases n⟩
theorem Abu {T:String}(hc:Fq X (.type T) r) (hf:CallD X.K r f) (hg:Gl X x) (hm:X.mg x=none) (hv:bootBuiltins x=some (.type T)) (he:SE X G e m) (hn:x≠"__name__":=by decide) (hdb:(x == ("__debug__":Str))=false:=by decide)
  (hs:starEach [e] X.env=(false,eval e X.env) :: starEach [] X.env:=by rfl) (hpl:(backTo pos (starEach [] X.env)).any (·.1)=false:=by rfl):SF X G (.Call (.Name x p) [e] [] pos) (e1 f m) :=
 (Qd hc hg hm hv (Br he Ea hs) hn hdb hs hpl).imp λ σ H Q z0=>z0.elim λ E z0=>z0.elim λ hr h=>⟨E,hr,(Fin.bind h).mono λ dx fx v H1 s1 p1=>by
  obtain⟨d,e,q⟩:=Fin.of fx
  exact hf H1 _ dx d v Q (hr.same s1).sane e p1 λ u H' s z=>q u H' (s1.trans s) z⟩
end

theorem R7 {prog:Program}{w:World}{K:Type} [DecidableEq K] (knd:HeapKind prog w K) (d:Addr) (hd:(d == sysModules)=false) :
  MeetsIn prog w (Builtin.«dict.__len__» ⟨[.ref d],[]⟩) (λ _ R s=>∃ kvs:List (K × Addr × Value),s.heap.DictOfH knd d kvs/\R (.ok (.ret (.int kvs.length s.toks))) { s with toks:=s.toks+1 }) :=
 .of_wp λ A R s ⟨kvs,hm,h⟩=>by
  obtain⟨o,es,ep,ho,hc,hdat,hk,hp⟩:=hm
  show wpAny _ _ (dictSize d >>= _) _ _ s
  unfold dictSize
  refine wpAny_bind (wpAny_bind (wpAny_dictEntries ho hdat (wpAny_pure ?_)))
  show wpAny _ _ (Builtin.Dict.pendingCount d >>= _) _ _ s
  refine wpAny_bind (wpAny_pendingCount_other hd ?_)
  refine wpAny_ret_mkInt ?_
  have:es.size=kvs.length:=by
   have:=congrArg List.length hk
   simpa using this
  rw [Nat.add_zero,this];exact h
theorem Vo {prog:Program}{w:World}{A:Around}{E:Value->Shared->Prop}{s:Shared}{K:Type} [DecidableEq K] {knd:HeapKind prog w K}{d:Addr}{kvs:List (K × Addr × Value)}{Q:Value->Shared->Prop}(hd:(d == sysModules)=false) (hm:s.heap.DictOfH knd d kvs) (hfit:(kvs.length:Int)<2 ^ 63)
  (h:Q (.int kvs.length (s.toks+1)) { s with toks:=s.toks+1+1 }):wpAny (model prog w) A (call (.builtin "len") [.ref d]) Q E s:=by
 refine Calls.call_function_entry kind_len plain_len entry_len (args_len1 _) ?_
 unfold Builtin.«len»
 refine wpAny_bind (m:=oneArg "len" _) (wpAny_pure ?_)
 refine wpAny_bind (m:=callSpecial? (.ref d) (Str.ofString "__len__")) (wpAny_callSpecial?_slot (name:=Str.ofString "__len__") hm.typeIs F.slot_dict_len
  (call_meetsIn F.slot_dict_len hm.typeIs F.entry_dict_len (F.args_dict_len_1 _) (R7 knd d hd) ⟨kvs,hm,?_⟩))
 show wpAny _ _ _ _ _ { s with toks:=s.toks+1 }
 refine wpAny_bind (wpAny_holding (wpAny_pure ?_))
 refine wpAny_bind (wpAny_letGo ?_)
 show wpAny _ _ (if ((kvs.length:Nat):Int)<0 then _ else _) _ _ _
 rw [if_neg (by omega)]
 show wpAny _ _ (if ((kvs.length:Nat):Int) ≥ 2 ^ 63 then _ else _) _ _ _
 rw [if_neg (by omega)]
 exact wpAny_bind (wpAny_mkInt (wpAny_pure ⟨_,rfl,h⟩))
section
variable {X:Cx}
theorem Aad:Fq X (.builtin "len") (λ xs H Q=>∃ a kvs,xs=[V.ref a]/\Rd H a (.dT kvs)/\Q (.int kvs.length) H):=by
 intro pins s σ H xs us Q I r h
 obtain⟨a,kvs,rfl,ha,q⟩:=h
 obtain⟨u,rfl,ru⟩:=vals1 r
 cases ru
 obtain⟨z,hd,ys,rel,dd⟩:=Rk I.hok ha
 have hl:ys.length=kvs.length:=(Paired.length rel).symm
 refine Vo hd dd (by rw [hl];rw [sizeLine_eq] at z;omega) ?_
 rw [hl]
 exact⟨.int kvs.length,H,I.tok _,⟨_,rfl⟩,q⟩
noncomputable def An4 (K:PySem.W.Frag):List V->Hp->VK->Prop:=λ xs H Q=>(∃ p ys,xs=[.ref p]/\(SqL K H p ys\/SqT K H p ys)/\Q (.int ys.length) H)\/(∃ z,xs=[.str z]/\z.length<=sizeLine/\Q (.int z.length) H)\/(∃ a kvs,xs=[V.ref a]/\Rd H a (.dT kvs)/\Q (.int kvs.length) H)
theorem U0:Fq X (.builtin "len") (An4 X.K):=Pb.or (Qc.or Aad)
noncomputable def Hf:D->Option D
 | .lst ds=>some (.int ds.length)
 | .tup ds=>some (.int ds.length)
 | .scr ns=>some (.int ns.length)
 | .dic kvs=>some (.int kvs.length)
 | .str z=>if z.length<=1000000 then some (.int z.length) else none
 | _=>none
theorem Aij {K:PySem.W.Frag}:CallD K (An4 K) Hf:=λ H O dx d v Q fr e rx q=>by
 cases dx with
 | lst ds =>
  cases e
  obtain⟨a,vs,rfl,h1,r1⟩:=rx.lst
  exact .inl ⟨a,vs,rfl,.inl (SqL.of h1),by rw [r1.length];exact q _ H (Same.refl _) (by unfold Rp;rfl)⟩
 | tup ds =>
  cases e
  obtain⟨a,vs,rfl,h1,r1⟩:=rx.tup
  exact .inl ⟨a,vs,rfl,.inr (SqT.of h1),by rw [r1.length];exact q _ H (Same.refl _) (by unfold Rp;rfl)⟩
 | scr ns =>
  cases e
  rcases rx with rx|⟨_,_,h⟩
  ·obtain⟨a,rfl,h1⟩:=rx.scr
   exact .inl ⟨a,_,rfl,.inl h1,by rw [List.length_map];exact q _ H (Same.refl _) (by unfold Rp;rfl)⟩
  ·exact h.elim
 | dic kvs =>
  cases e
  obtain⟨a,ws,rfl,h1,r1⟩:=rx.dic
  exact .inr (.inr ⟨a,ws,rfl,h1,by rw [r1.length];exact q _ H (Same.refl _) (by unfold Rp;rfl)⟩)
 | str z =>
  simp only [Hf] at e
  split at e
  ·rename_i hz
   cases e
   exact .inr (.inl ⟨z,by rw [rx.str],by rw [sizeLine_eq];omega,q _ H (Same.refl _) (by unfold Rp;rfl)⟩)
  ·cases e
 | _=>cases e
noncomputable def Ak8:D->Option D
 | .lst ds=>some (.lst ds)
 | .tup ds=>some (.lst ds)
 | _=>none
theorem Nq {pins:List (Addr × Obj)}{σ:St}{H:Hp}{s:Shared}{p:Addr}{bs:List Bool}{E:Value->Shared->Prop}(hc:X.calm=true) (I:Inv X pins σ H s) (h:SqL X.K H p (bs.map V.bl)) {Qz:Bool->Value->Shared->Prop}(neg:Bool)
  (q:∀ s',Inv X pins σ H s'->Qz neg (.bool (if neg then bs.any id else bs.all id)) s') :
  wpAny (model X.prog X.w) X.A.in1 (pyIter (.ref p)) (λ it s₂=>∃ I fp wr n P St tr,it=.ref I/\Walks X.prog X.w X.A.in1 I fp wr n P St/\St 0 s₂.heap/\TruthOf X.prog X.w X.A.in1 P tr ∧
   ∀ h' tk,(∀ b o,b∉wr->s₂.heap.get? b=some o->h'.get? b=some o)->Qz neg (.bool (if neg then (List.range n).any tr else (List.range n).all tr)) { s₂ with heap:=h',toks:=tk }) E s:=by
 obtain⟨its,rv,pl,hz⟩:=I.list h
 have hl:its.length=bs.length:=by rw [<-rv.length];simp
 have hp:p≠s.heap.objs.size:=by obtain⟨o,e,_⟩:=pl.isList;exact Nat.ne_of_lt (Heap.lt_size e)
 have at':∀ (i:Nat) (v:Value),its.toArray[i]?=some v->∃ b,bs[i]?=some b/\v=.bool b:=λ i v e=>by
  have e:its[i]?=some v:=by simpa using e
  have hi:i<bs.length:=by rw [<-hl];exact (List.getElem?_eq_some_iff.mp e).1
  obtain⟨u,e1,r1⟩:=rv.get (i:=i) (x:=.bl bs[i]) (by simp [hi])
  rw [e] at e1;cases e1
  exact⟨bs[i],by simp [hi],r1⟩
 refine wpAny_pyIter_list pl.isList ⟨s.heap.objs.size,_,_,_,_,_,λ i=>bs.getD i false,rfl,Walks.list (by show X.A.handled=none;exact I.ok.hd hc) _ p hp its.toArray,⟨⟨_,Heap.get?_push_size _ rfl,rfl,rfl⟩,pl.isList.at λ o e=>Heap.get?_push_of_some _ e⟩,?_,λ h' tk k=>?_⟩
 ·intro i v s' Q' E' hP hQ
  obtain⟨b,e1,rfl⟩:=at' i v hP
  refine wpAny_truthy_bool ?_
  dsimp only at hQ
  rw [List.getD_eq_getElem?_getD,e1] at hQ
  exact hQ
 ·have I':Inv X pins σ H { s with heap:=h',toks:=tk }:=I.kept λ b o e=>k b o (by
   have:=Heap.lt_size e
   simp only [List.mem_cons,List.not_mem_nil,or_false]
   exact Nat.ne_of_lt this) (Heap.get?_push_of_some _ e)
  have e1:(List.range its.toArray.size).any (λ i=>bs.getD i false)=bs.any id:=by
   rw [List.size_toArray,hl]
   conv=>rhs;rw [<-range_getD bs false]
   rw [List.any_map];rfl
  have e2:(List.range its.toArray.size).all (λ i=>bs.getD i false)=bs.all id:=by
   rw [List.size_toArray,hl]
   conv=>rhs;rw [<-range_getD bs false]
   rw [List.all_map];rfl
  rw [e1,e2]
  exact q _ I'
noncomputable def Apk (K:PySem.W.Frag):List V->Hp->VK->Prop:=λ xs H Q=>∃ (p:Addr) (bs:List Bool),xs=[.ref p]/\SqL K H p (bs.map V.bl)/\Q (.bl (bs.all id)) H
noncomputable def Anc (K:PySem.W.Frag):List V->Hp->VK->Prop:=λ xs H Q=>∃ (p:Addr) (bs:List Bool),xs=[.ref p]/\SqL K H p (bs.map V.bl)/\Q (.bl (bs.any id)) H
theorem X5 (hc:X.calm=true):Fq X (.builtin "all") (Apk X.K):=by
 intro pins s σ H xs us Q I r h
 obtain⟨p,bs,rfl,hp,q⟩:=h
 obtain⟨u,rfl,ru⟩:=vals1 r
 cases ru
 refine call_all_walk ?_
 exact Nq (Qz:=λ _=>EP X pins σ Q) hc I hp false λ s' I'=>⟨.bl _,H,I',rfl,q⟩
theorem Xl (hc:X.calm=true):Fq X (.builtin "any") (Anc X.K):=by
 intro pins s σ H xs us Q I r h
 obtain⟨p,bs,rfl,hp,q⟩:=h
 obtain⟨u,rfl,ru⟩:=vals1 r
 cases ru
 refine call_any_walk ?_
 exact Nq (Qz:=λ _=>EP X pins σ Q) hc I hp true λ s' I'=>⟨.bl _,H,I',rfl,q⟩
noncomputable def bls:List D->Option (List Bool)
 | []=>some []
 | .bl b :: r=>(bls r).map (b :: ·)
 | _ :: _=>none
theorem Nx:∀ {ds:List D}{bs:List Bool},bls ds=some bs->ds=bs.map D.bl
 | [],bs,h=>by simp [bls] at h;subst h;rfl
 | .bl i :: r,ns,h=>by
  simp only [bls,Option.map_eq_some_iff] at h
  obtain⟨ms,h1,rfl⟩:=h
  rw [Nx h1];rfl
 | .non :: r,ns,h=>by simp [bls] at h
 | .int _ :: r,ns,h=>by simp [bls] at h
 | .str _ :: r,ns,h=>by simp [bls] at h
 | .tup _ :: r,ns,h=>by simp [bls] at h
 | .lst _ :: r,ns,h=>by simp [bls] at h
 | .dic _ :: r,ns,h=>by simp [bls] at h
 | .scr _ :: r,ns,h=>by simp [bls] at h
@[simp] theorem Afs:∀ bs:List Bool,bls (bs.map D.bl)=some bs
 | []=>rfl
 | n :: ns=>by simp [bls,Afs ns]
theorem Rps.bls {K:PySem.W.Frag}{H:Hp}{O:Addr->Prop}:∀ {ns:List Bool}{vs:List V},Rps K H O (ns.map D.bl) vs->vs=ns.map V.bl
 | [],vs,h=>by unfold Rps at h;exact h
 | n :: ns,vs,h=>by
  unfold Rps at h
  obtain⟨v,r,rfl,p,q⟩:=h
  unfold Rp at p
  rw [p,Rps.bls q];rfl
noncomputable def Ae8:D->Option D
 | .lst ds=>(bls ds).map λ bs=>.bl (bs.all id)
 | _=>none
noncomputable def Agz:D->Option D
 | .lst ds=>(bls ds).map λ bs=>.bl (bs.any id)
 | _=>none
theorem Aj1 {K:PySem.W.Frag}:CallD K (Apk K) Ae8:=λ H O dx d v Q fr e rx q=>by
 cases dx with
 | lst ds =>
  simp only [Ae8,Option.map_eq_some_iff] at e
  obtain⟨bs,e,rfl⟩:=e
  obtain⟨a,vs,rfl,h1,r1⟩:=rx.lst
  rw [Nx e] at r1
  exact⟨a,bs,rfl,SqL.of (by rw [<-r1.bls];exact h1),q _ H (Same.refl _) (by unfold Rp;rfl)⟩
 | _=>cases e
theorem Ahh {K:PySem.W.Frag}:CallD K (Anc K) Agz:=λ H O dx d v Q fr e rx q=>by
 cases dx with
 | lst ds =>
  simp only [Agz,Option.map_eq_some_iff] at e
  obtain⟨bs,e,rfl⟩:=e
  obtain⟨a,vs,rfl,h1,r1⟩:=rx.lst
  rw [Nx e] at r1
  exact⟨a,bs,rfl,SqL.of (by rw [<-r1.bls];exact h1),q _ H (Same.refl _) (by unfold Rp;rfl)⟩
 | _=>cases e
end
end M

set_option Elab.async false
set_option linter.all false
set_option maxRecDepth 100000
namespace M
open PySem PySem.W PySem.Spec PyProof.Rows L2

structure LtOk (lt:Nat->Nat->Bool):Prop where
 refl:∀ a,lt a a=false
 tr:∀ {a b c},lt b a=false->lt c b=false->lt c a=false
 as:∀ {a b},lt a b=true->lt b a=false
section
variable {n:Nat}{lt:Nat->Nat->Bool}
noncomputable def Sd (lt:Nat->Nat->Bool) (p:Array Nat) (m:Nat):Prop:=∀ i j,i<=j->j<m->lt (p.getD j 0) (p.getD i 0)=false
variable (L:LtOk lt)
include L
end
end M

set_option Elab.async false
set_option linter.all false
set_option maxRecDepth 100000
set_option maxHeartbeats 1000000
namespace M
open PySem PyProof.Rows
structure LtK (lt:Keyed->Keyed->Bool):Prop where
 irr:∀ a,lt a a=false
 tr:∀ {a b c},lt b a=false->lt c b=false->lt c a=false
 as:∀ {a b},lt a b=true->lt b a=false
noncomputable def Rw (prog:Program) (w:World) (A:Around) (s:Shared) (κ:SortKind) (lt:Keyed->Keyed->Bool) (S:Keyed->Prop):Prop :=
 ∀ (x y:Keyed) (Q:Bool->Shared->Prop),S x->S y->Q (lt x y) s->wpAny (model prog w) A (keyLt' κ x.1 y.1) Q (λ _ _=>False) s
noncomputable def Kl:Bool->Keyed->Array Keyed->Nat->Nat->Nat->StateT SortSt Sem (Option Nat):=sortPriv% PySem.Builtin.gallop
noncomputable def Acz:Array Keyed->Array Keyed->StateT SortSt Sem (Array Keyed):=sortPriv% PySem.Builtin.mergeLo
noncomputable def Ac0:Array Keyed->Array Keyed->StateT SortSt Sem (Array Keyed):=sortPriv% PySem.Builtin.mergeHi
section
variable {prog:Program}{w:World}{A:Around}{E:Value->Shared->Prop}{s:Shared}{lt:Keyed->Keyed->Bool}{κ:SortKind}{S:Keyed->Prop}
theorem Q6 {st:SortSt}{x y:Keyed}{Q:Option Bool->SortSt->Prop}(h:Rw prog w A s κ lt S) (hk:kindOf st=κ) (hx:S x) (hy:S y) (q:Q (some (lt x y)) st):wpS (model prog w) A E s (lt' x y) Q st:=by
 rw [lt'_eq]
 refine wpS_bind (wpS_get ?_)
 rw [hk]
 exact wpS_bind (wpS_lift (wpAny_attempt (wpAny_mono (h x y (λ b s'=>s'=s/\b=lt x y) hx hy ⟨rfl,rfl⟩) (λ c s' hc=>by obtain⟨rfl,rfl⟩:=hc;exact⟨rfl,wpS_pure q⟩) λ _ _ hF=>hF.elim)))
theorem Bc {st:SortSt}{arr:Array Keyed}{i:Nat}{x:Keyed}{Q:Keyed->SortSt->Prop}(h:arr[i]?=some x) (q:Q x st):wpS (model prog w) A E s (elem' arr i) Q st:=by
 rw [elem'_eq,h]
 exact wpS_pure q
noncomputable def bey (lt:Keyed->Keyed->Bool) (left:Bool) (key x:Keyed):Bool:=if left=true then lt x key else !lt key x
theorem Ajz {st:SortSt}{arr:Array Keyed}{i:Nat}{left:Bool}{key x:Keyed}{Q:Option Bool->SortSt->Prop}(h:Rw prog w A s κ lt S) (hk:kindOf st=κ) (hy:S key) (e:arr[i]?=some x) (hx:S x) (q:Q (some (bey lt left key x)) st) :
  wpS (model prog w) A E s (elem' arr i >>= λ z=>if left=true then lt' z key else lt' key z >>= λ c=>pure (c.map λ x=>!x)) Q st:=by
 refine wpS_bind (Bc e ?_)
 unfold bey at q
 cases left with
 | true=>rw [if_pos rfl] at q ⊢;exact Q6 h hk hx hy q
 | false=>rw [if_neg (by simp)] at q ⊢;exact wpS_bind (Q6 h hk hy hx (wpS_pure q))
theorem Ft {st:SortSt}{arr:Array Keyed}{left:Bool}{key:Keyed}{base n hint:Nat}{B:Nat->Bool}{Q:Option Nat->SortSt->Prop}(h:Rw prog w A s κ lt S) (hk:kindOf st=κ) (hy:S key) (hh:hint<n)
  (hB:∀ i,i<n->∃ x,arr[base+i]?=some x/\S x/\bey lt left key x=B i) (mono:∀ i j,i<=j->j<n->B j=true->B i=true)
  (q:∀ k,k<=n->(∀ i,i<k->B i=true)->(∀ i,k<=i->i<n->B i=false)->Q (some k) st):wpS (model prog w) A E s (Kl left key arr base n hint) Q st:=by
 have ask:∀ i,i<n->∀ {R:Option Bool->SortSt->Prop},R (some (B i)) st->wpS (model prog w) A E s (elem' arr (base+i) >>= λ z=>if left=true then lt' z key else lt' key z >>= λ c=>pure (c.map λ x=>!x)) R st:=λ i hi R hR=>by
  obtain⟨x,e,hx,eb⟩:=hB i hi
  exact Ajz h hk hy e hx (by rw [eb];exact hR)
 have monoF:∀ i j,i<=j->j<n->B i=false->B j=false:=λ i j hij hj hf=>by
  cases hb:B j with
  | false=>rfl
  | true=>rw [mono i j hij hj hb] at hf;cases hf
 -- the second loop
 have second:∀ lo hi,lo<=hi->hi<=n->(∀ i,i<lo->B i=true)->(∀ i,hi<=i->i<n->B i=false)->wpS (model prog w) A E s (forIn [:n] ((none,lo,hi):Option (Option Nat) × Nat × Nat) λ x z =>
   if z.2.1 ≥ z.2.2 then pure (ForInStep.done (none,z.2.1,z.2.2))
   else (elem' arr (base+(z.2.1+(z.2.2-z.2.1) / 2)) >>= λ v=>if left=true then lt' v key else lt' key v >>= λ c=>pure (c.map λ x=>!x)) >>= λ y=>match y with
    | some more=>if more=true then pure (ForInStep.yield (none,z.2.1+(z.2.2-z.2.1) / 2+1,z.2.2)) else pure (ForInStep.yield (none,z.2.1,z.2.1+(z.2.2-z.2.1) / 2))
    | _=>pure (ForInStep.done (some none,z.2.1,z.2.2)))
   (λ c st'=>∃ l,∃ k,c=(none,l,k)/\st'=st/\k<=n/\(∀ i,i<k->B i=true)/\(∀ i,k<=i->i<n->B i=false)) st:=by
  intro lo hi hlh hhn hlo hhi
  refine wpS_forRange (I:=λ x c st'=>st'=st/\∃ l k,c=(none,l,k)/\l<=k/\k<=n/\k-l<=n-x/\(∀ i,i<l->B i=true)/\(∀ i,k<=i->i<n->B i=false)) ?_ ?_ ⟨rfl,lo,hi,rfl,hlh,hhn,by omega,hlo,hhi⟩
  ·rintro x c st' _ hx ⟨rfl,l,k,rfl,h1,h2,h3,h4,h5⟩
   dsimp only
   by_cases hge:l ≥ k
   ·rw [if_pos hge]
    obtain rfl:l=k:=by omega
    exact wpS_pure ⟨l,l,rfl,rfl,h2,h4,h5⟩
   ·rw [if_neg hge]
    refine wpS_bind (ask _ (by omega) ?_)
    cases hb:B (l+(k-l) / 2) with
    | true=>exact wpS_pure ⟨rfl,_,_,rfl,by omega,h2,by omega,λ i hi=>mono i _ (by omega) (by omega) hb,h5⟩
    | false=>exact wpS_pure ⟨rfl,_,_,rfl,by omega,by omega,by omega,h4,λ i h6 h7=>monoF _ i h6 h7 hb⟩
  ·rintro c st' ⟨rfl,l,k,rfl,h1,h2,h3,h4,h5⟩
   obtain rfl:l=k:=by omega
   exact⟨l,l,rfl,rfl,h2,h4,h5⟩
 refine wpS_bind (ask hint hh ?_)
 cases hb:B hint with
 | true =>
  refine wpS_bind (wpS_mono (wpS_forRange (I:=λ x c st'=>st'=st/\∃ l o,c=(none,l,o)/\x+1<=o/\l<o/\hint+l<n/\B (hint+l)=true)
   (Q:=λ c st'=>st'=st/\∃ l o,c=(none,l,o)/\l<o/\hint+l<n/\B (hint+l)=true/\(o ≥ n-hint\/B (hint+o)=false)) ?_ ?_ ⟨rfl,0,1,rfl,by omega,by omega,by omega,hb⟩) ?_)
  ·rintro x c st' _ hx ⟨rfl,l,o,rfl,h1,h2,h3,h4⟩
   dsimp only
   by_cases hge:o ≥ n-hint
   ·rw [if_pos hge]
    exact wpS_pure ⟨rfl,l,o,rfl,h2,h3,h4,.inl hge⟩
   ·rw [if_neg hge]
    refine wpS_bind (ask _ (by omega) ?_)
    cases hm:B (hint+o) with
    | true=>exact wpS_pure ⟨rfl,o,2 * o+1,rfl,by omega,by omega,by omega,hm⟩
    | false=>exact wpS_pure ⟨rfl,l,o,rfl,h2,h3,h4,.inr hm⟩
  ·rintro c st' ⟨rfl,l,o,rfl,h1,h2,h3,h4⟩
   exact⟨rfl,l,o,rfl,h2,h3,h4,.inl (by omega)⟩
  ·rintro c st' ⟨rfl,l,o,rfl,h1,h2,h3,h4⟩
   refine wpS_bind (wpS_mono (second (hint+l+1) (hint+min o (n-hint)) (by omega) (by omega) (λ i hi=>mono i _ (by omega) h2 h3) λ i hi hin=>?_) ?_)
   ·rcases h4 with h4|h4
    ·omega
    ·exact monoF _ i (by omega) hin h4
   ·rintro c st' ⟨l,k,rfl,rfl,a1,a2,a3⟩
    exact wpS_pure (q k a1 a2 a3)
 | false =>
  refine wpS_bind (wpS_mono (wpS_forRange (I:=λ x c st'=>st'=st/\∃ l o,c=(none,l,o)/\x+1<=o/\l<o/\l<=hint/\B (hint-l)=false)
   (Q:=λ c st'=>st'=st/\∃ l o,c=(none,l,o)/\l<o/\l<=hint/\B (hint-l)=false/\(o ≥ hint+1\/B (hint-o)=true)) ?_ ?_ ⟨rfl,0,1,rfl,by omega,by omega,by omega,hb⟩) ?_)
  ·rintro x c st' _ hx ⟨rfl,l,o,rfl,h1,h2,h3,h4⟩
   dsimp only
   by_cases hge:o ≥ hint+1
   ·rw [if_pos hge]
    exact wpS_pure ⟨rfl,l,o,rfl,h2,h3,h4,.inl hge⟩
   ·rw [if_neg hge]
    refine wpS_bind (ask _ (by omega) ?_)
    cases hm:B (hint-o) with
    | true=>exact wpS_pure ⟨rfl,l,o,rfl,h2,h3,h4,.inr hm⟩
    | false=>exact wpS_pure ⟨rfl,o,2 * o+1,rfl,by omega,by omega,by omega,hm⟩
  ·rintro c st' ⟨rfl,l,o,rfl,h1,h2,h3,h4⟩
   exact⟨rfl,l,o,rfl,h2,h3,h4,.inl (by omega)⟩
  ·rintro c st' ⟨rfl,l,o,rfl,h1,h2,h3,h4⟩
   refine wpS_bind (wpS_mono (second (hint+1-min o (hint+1)) (hint-l) (by omega) (by omega) (λ i hi=>?_) λ i hi hin=>monoF _ i hi hin h3) ?_)
   ·rcases h4 with h4|h4
    ·omega
    ·exact mono i _ (by omega) (by omega) h4
   ·rintro c st' ⟨l,k,rfl,rfl,a1,a2,a3⟩
    exact wpS_pure (q k a1 a2 a3)
end
noncomputable def Em (lt:Keyed->Keyed->Bool) (l:List Keyed):Prop:=l.Pairwise λ x y=>lt y x=false
noncomputable def Oi (lt:Keyed->Keyed->Bool) (a b out:Array Keyed):Prop:=Em lt out.toList/\out.toList.Perm (a.toList++b.toList)
structure MI (lt:Keyed->Keyed->Bool) (a b out:Array Keyed) (i j:Nat):Prop where
 asc:Em lt out.toList
 low:∀ x∈out.toList,∀ y,y∈a.toList.drop i\/y∈b.toList.drop j->lt y x=false
 prm:(out.toList++(a.toList.drop i++b.toList.drop j)).Perm (a.toList++b.toList)
section
variable {lt:Keyed->Keyed->Bool}{a b out:Array Keyed}{i j:Nat}
theorem Ld (L:LtK lt) {x y:Keyed}{l:List Keyed}(h:Em lt (x :: l)) (e:lt x y=false):∀ z∈x :: l,lt z y=false:=λ z hz=>by
 rcases List.mem_cons.mp hz with rfl|hz
 ·exact e
 ·exact L.tr e ((List.pairwise_cons.mp h).1 z hz)
theorem Hv {arr:Array Keyed}{i:Nat}{x:Keyed}(h:arr[i]?=some x):arr.toList.drop i=x :: arr.toList.drop (i+1):=by
 obtain⟨hi,rfl⟩:=Array.getElem?_eq_some_iff.mp h
 rw [List.drop_eq_getElem_cons (by simpa using hi)]
 simp
theorem Dj {arr:Array Keyed}(h:Em lt arr.toList) (i:Nat):Em lt (arr.toList.drop i):=List.Pairwise.sublist (List.drop_sublist i _) h
theorem Np (L:LtK lt) {arr:Array Keyed}(h:Em lt arr.toList) {i j:Nat}{x y:Keyed}(hij:i<=j) (hx:arr[i]?=some x) (hy:arr[j]?=some y):lt y x=false:=by
 by_cases e:i=j
 ·subst e;rw [hx] at hy;cases hy;exact L.irr _
 ·obtain⟨hi,rfl⟩:=Array.getElem?_eq_some_iff.mp hx
  obtain⟨hj,rfl⟩:=Array.getElem?_eq_some_iff.mp hy
  have:=List.pairwise_iff_getElem.mp h i j (by simpa using hi) (by simpa using hj) (by omega)
  simpa using this
theorem MI.pushB (I:MI lt a b out i j) (hb:Em lt b.toList) {y:Keyed}(e:b[j]?=some y) (h:∀ z∈a.toList.drop i,lt z y=false):MI lt a b (out.push y) i (j+1):=by
 have d:=Hv e
 have sb:=Dj hb j
 rw [d] at sb
 refine⟨?_,λ x hx z hz=>?_,?_⟩
 ·rw [Array.toList_push]
  refine List.pairwise_append.mpr ⟨I.asc,List.pairwise_singleton ..,λ x hx z hz=>?_⟩
  cases List.mem_singleton.mp hz
  exact I.low x hx _ (.inr (by rw [d];exact List.mem_cons_self))
 ·rw [Array.toList_push] at hx
  rcases List.mem_append.mp hx with hx|hx
  ·exact I.low x hx z (hz.imp id λ q=>by rw [d];exact List.mem_cons_of_mem _ q)
  ·cases List.mem_singleton.mp hx
   rcases hz with hz|hz
   ·exact h z hz
   ·exact (List.pairwise_cons.mp sb).1 z hz
 ·refine List.Perm.trans ?_ I.prm
  rw [Array.toList_push,d,List.append_assoc]
  refine List.Perm.append_left _ ?_
  show (y :: (List.drop i a.toList++List.drop (j+1) b.toList)).Perm _
  exact List.perm_middle.symm
theorem MI.pushA (I:MI lt a b out i j) (ha:Em lt a.toList) {y:Keyed}(e:a[i]?=some y) (h:∀ z∈b.toList.drop j,lt z y=false):MI lt a b (out.push y) (i+1) j:=by
 have d:=Hv e
 have sa:=Dj ha i
 rw [d] at sa
 refine⟨?_,λ x hx z hz=>?_,?_⟩
 ·rw [Array.toList_push]
  refine List.pairwise_append.mpr ⟨I.asc,List.pairwise_singleton ..,λ x hx z hz=>?_⟩
  cases List.mem_singleton.mp hz
  exact I.low x hx _ (.inl (by rw [d];exact List.mem_cons_self))
 ·rw [Array.toList_push] at hx
  rcases List.mem_append.mp hx with hx|hx
  ·exact I.low x hx z (hz.imp (λ q=>by rw [d];exact List.mem_cons_of_mem _ q) id)
  ·cases List.mem_singleton.mp hx
   rcases hz with hz|hz
   ·exact (List.pairwise_cons.mp sa).1 z hz
   ·exact h z hz
 ·refine List.Perm.trans ?_ I.prm
  rw [Array.toList_push,d,List.append_assoc]
  exact List.Perm.refl _
theorem Oz {arr:Array Keyed}{i k:Nat}(h:i+k<arr.size):arr.extract i (i+(k+1))=(arr.extract i (i+k)).push arr[i+k]:=by
 rw [Array.push_extract_getElem h,Nat.min_eq_left (Nat.le_add_right i k)]
 rfl
theorem ext_nil (arr:Array Keyed) (i:Nat):arr.extract i (i+0)=#[]:=Array.toList_inj.mp (by rw [Array.toList_extract];simp)
theorem MI.runA (I:MI lt a b out i j) (ha:Em lt a.toList):∀ (k:Nat),i+k<=a.size->(∀ m,m<k->∀ y,a[i+m]?=some y->∀ z∈b.toList.drop j,lt z y=false)->MI lt a b (out++a.extract i (i+k)) (i+k) j
 | 0,_,_=>by rw [ext_nil,Array.append_empty];exact I
 | k+1,hk,h=>by
  have r:=(I.runA ha k (by omega) λ m hm=>h m (by omega)).pushA ha (y:=a[i+k]) (Array.getElem?_eq_getElem (by omega)) (h k (by omega) _ (Array.getElem?_eq_getElem (by omega)))
  rw [Oz (by omega),Array.append_push]
  exact r
theorem MI.runB (I:MI lt a b out i j) (hb:Em lt b.toList):∀ (k:Nat),j+k<=b.size->(∀ m,m<k->∀ y,b[j+m]?=some y->∀ z∈a.toList.drop i,lt z y=false)->MI lt a b (out++b.extract j (j+k)) i (j+k)
 | 0,_,_=>by rw [ext_nil,Array.append_empty];exact I
 | k+1,hk,h=>by
  have r:=(I.runB hb k (by omega) λ m hm=>h m (by omega)).pushB hb (y:=b[j+k]) (Array.getElem?_eq_getElem (by omega)) (h k (by omega) _ (Array.getElem?_eq_getElem (by omega)))
  rw [Oz (by omega),Array.append_push]
  exact r
theorem G5 (arr:Array Keyed) (i:Nat):(arr.extract i arr.size).toList=arr.toList.drop i:=by
 rw [Array.toList_extract,List.extract_eq_take_drop]
 exact List.take_of_length_le (by simp)
theorem MI.done (I:MI lt a b out i j) (ha:Em lt a.toList) (hb:Em lt b.toList) (h:a.size<=i\/b.size<=j):Oi lt a b (out++a.extract i a.size++b.extract j b.size):=by
 unfold Oi
 rw [Array.toList_append,Array.toList_append,G5,G5,List.append_assoc]
 refine⟨List.pairwise_append.mpr ⟨I.asc,List.pairwise_append.mpr ⟨Dj ha i,Dj hb j,λ x hx y hy=>?_⟩,λ x hx y hy=>I.low x hx y (List.mem_append.mp hy)⟩,I.prm⟩
 rcases h with h|h
 ·rw [List.drop_of_length_le (by simpa using h)] at hx;cases hx
 ·rw [List.drop_of_length_le (by simpa using h)] at hy;cases hy
theorem MI.lastA (I:MI lt a b out i j) (ha:Em lt a.toList) (hb:Em lt b.toList) (hl:∀ x∈a.toList.drop (a.size-1),∀ y∈b.toList,lt x y=false) (h:i+1=a.size):Oi lt a b (out++b.extract j b.size++a.extract i a.size):=by
 unfold Oi
 rw [Array.toList_append,Array.toList_append,G5,G5,List.append_assoc]
 refine⟨List.pairwise_append.mpr ⟨I.asc,List.pairwise_append.mpr ⟨Dj hb j,Dj ha i,λ x hx y hy=>?_⟩,λ x hx y hy=>I.low x hx y (List.mem_append.mp hy).symm⟩,(List.Perm.append_left _ List.perm_append_comm).trans I.prm⟩
 exact hl y (by rwa [show a.size-1=i by omega]) x (List.mem_of_mem_drop hx)
end
noncomputable abbrev stG (st:SortSt) (g:Nat):SortSt:=SortSt.mk' (kindOf st) (arrOf st) (pendingOf st) g (failedOf st)
noncomputable def Mid (lt:Keyed->Keyed->Bool) (a b o:Array Keyed) (i j:Nat):Prop:=MI lt a b o i j/\i+1<a.size/\j<b.size
section
variable {prog:Program}{w:World}{A:Around}{E:Value->Shared->Prop}{s:Shared}{lt:Keyed->Keyed->Bool}{κ:SortKind}{S:Keyed->Prop}
noncomputable abbrev LoT:Type:=Option (Array Keyed) × Array Keyed × Nat × Nat × Nat × Nat × Nat
noncomputable def Akj (a b o:Array Keyed) (i j m p r:Nat):StateT SortSt Sem (ForInStep LoT) :=
 elem' a i >>= λ v=>if (i+1+1 == a.size)=true then pure (.done (some (o.push v++b.extract j b.size++a.extract (i+1) a.size),o.push v,i+1,j,m,p,r))
  else if (decide (p<7) && decide (r<7))=true then pure (.done (none,o.push v,i+1,j,m,p,r)) else pure (.yield (none,o.push v,i+1,j,m,p,r))
noncomputable def Akb (a b o:Array Keyed) (i j m p r:Nat):StateT SortSt Sem (ForInStep LoT) :=
 elem' b j >>= λ y=>if (j+1 == b.size)=true then pure (.done (some (o.push y++a.extract i a.size++b.extract (j+1) b.size),o.push y,i,j+1,m,p,r))
  else elem' a i >>= λ v=>Kl true v b (j+1) (b.size-(j+1)) 0 >>= λ t=>match t with
   | some k=>if k > 0 then (if (j+1+k == b.size)=true then pure (.done (some (o.push y++b.extract (j+1) (j+1+k)++a.extract i a.size++b.extract (j+1+k) b.size),o.push y++b.extract (j+1) (j+1+k),i,j+1+k,m,p,k))
     else Akj a b (o.push y++b.extract (j+1) (j+1+k)) i (j+1+k) m p k) else Akj a b (o.push y) i (j+1) m p k
   | _=>pure (.done (some (o.push y++a.extract i a.size++b.extract (j+1) b.size),o.push y,i,j+1,m,p,r))
noncomputable def Aoa (a b o:Array Keyed) (i j m p r:Nat):StateT SortSt Sem (ForInStep LoT) :=
 elem' b j >>= λ y=>Kl false y a i (a.size-i) 0 >>= λ t=>match t with
  | some k=>if k > 0 then (if (i+k+1 == a.size)=true then pure (.done (some (o++a.extract i (i+k)++b.extract j b.size++a.extract (i+k) a.size),o++a.extract i (i+k),i+k,j,m,k,r))
    else if (i+k == a.size)=true then pure (.done (some (o++a.extract i (i+k)++a.extract (i+k) a.size++b.extract j b.size),o++a.extract i (i+k),i+k,j,m,k,r))
    else Akb a b (o++a.extract i (i+k)) (i+k) j m k r) else Akb a b o i j m k r
  | _=>pure (.done (some (o++a.extract i a.size++b.extract j b.size),o,i,j,m,p,r))
structure MCx (prog:Program) (w:World) (A:Around) (s:Shared) (κ:SortKind) (lt:Keyed->Keyed->Bool) (S:Keyed->Prop) (a b:Array Keyed):Prop where
 L:LtK lt
 h:Rw prog w A s κ lt S
 ga:∀ i,i<a.size->∃ x,a[i]?=some x/\S x
 gb:∀ i,i<b.size->∃ x,b[i]?=some x/\S x
 ha:Em lt a.toList
 hb:Em lt b.toList
structure LoP (lt:Keyed->Keyed->Bool) (a b:Array Keyed) (n:Nat) (st:SortSt) (P:ForInStep LoT->SortSt->Prop):Prop where
 r:∀ r z,Oi lt a b r->P (.done (some r,z)) st
 d:∀ o i j z,Mid lt a b o i j->n<=i+j->P (.done (none,o,i,j,z)) st
 y:∀ o i j z,Mid lt a b o i j->n<=i+j->P (.yield (none,o,i,j,z)) st
variable {a b o:Array Keyed}{i j m p r n:Nat}{st:SortSt}{P:ForInStep LoT->SortSt->Prop}
theorem Xi (X:MCx prog w A s κ lt S a b) (hl:∀ x∈a.toList.drop (a.size-1),∀ y∈b.toList,lt x y=false) (pP:LoP lt a b n st P) (I:MI lt a b o i j) (h1:i+1<a.size) (h2:j<b.size) (hn:n<=i+j) {v:Keyed}(ev:a[i]?=some v) (Z:∀ z∈b.toList.drop j,lt z v=false) :
  wpS (model prog w) A E s (Akj a b o i j m p r) P st:=by
 unfold Akj
 refine wpS_bind (Bc ev ?_)
 have I6:=I.pushA X.ha ev Z
 by_cases d2:(i+1+1 == a.size)=true
 ·rw [if_pos d2];exact wpS_pure (pP.r _ _ (I6.lastA X.ha X.hb hl (by simpa using d2)))
 rw [if_neg d2]
 have d2':¬ i+1+1=a.size:=by simpa using d2
 split
 ·exact wpS_pure (pP.d _ _ _ _ ⟨I6,by omega,h2⟩ (by omega))
 ·exact wpS_pure (pP.y _ _ _ _ ⟨I6,by omega,h2⟩ (by omega))
theorem X6 (X:MCx prog w A s κ lt S a b) (hk:kindOf st=κ) (hl:∀ x∈a.toList.drop (a.size-1),∀ y∈b.toList,lt x y=false) (pP:LoP lt a b n st P) (I:MI lt a b o i j) (h1:i+1<a.size) (h2:j<b.size) (hn:n<=i+j) {y:Keyed}(ey:b[j]?=some y) (Z:∀ z∈a.toList.drop i,lt z y=false) :
  wpS (model prog w) A E s (Akb a b o i j m p r) P st:=by
 unfold Akb
 refine wpS_bind (Bc ey ?_)
 have I4:=I.pushB X.hb ey Z
 by_cases d1:(j+1 == b.size)=true
 ·rw [if_pos d1];exact wpS_pure (pP.r _ _ (I4.done X.ha X.hb (.inr (by simp at d1;omega))))
 rw [if_neg d1]
 have d1':¬ j+1=b.size:=by simpa using d1
 obtain⟨v,ev,sv⟩:=X.ga i (by omega)
 have dA:=Hv ev
 have pA:=Dj X.ha i
 rw [dA] at pA
 refine wpS_bind (Bc ev (wpS_bind ?_))
 refine Ft (B:=λ n=>lt (b[j+1+n]?.getD default) v) X.h hk sv (by omega) (λ n hn=>?_) (λ n n' hii hi' hB=>?_) λ k hk1 hk2 hk3=>?_
 ·obtain⟨x,ex,sx⟩:=X.gb (j+1+n) (by omega)
  refine⟨x,ex,sx,?_⟩
  simp only [ex];rfl
 ·obtain⟨x,ex,sx⟩:=X.gb (j+1+n) (by omega)
  obtain⟨x',ex',sx'⟩:=X.gb (j+1+n') (by omega)
  simp only [ex,ex',Option.getD_some] at hB ⊢
  cases hx:lt x v with
  | true=>rfl
  | false=>rw [X.L.tr hx (Np X.L X.hb (by omega) ex ex')] at hB;cases hB
 have I5:MI lt a b (o.push y++b.extract (j+1) (j+1+k)) i (j+1+k):=I4.runB X.hb k (by omega) λ m hm z hz u hu=>by
  have:=hk2 m hm
  simp only [hz,Option.getD_some] at this
  rw [dA] at hu
  exact Ld X.L pA (X.L.as this) u hu
 have Z5:∀ z∈b.toList.drop (j+1+k),lt z v=false:=λ z hz=>by
  obtain⟨n,hn,rfl⟩:=List.getElem_of_mem hz
  rw [List.length_drop,Array.length_toList] at hn
  have:=hk3 (k+n) (by omega) (by omega)
  rw [Array.getElem?_eq_getElem (show j+1+(k+n)<b.size by omega)] at this
  simp only [Option.getD_some] at this
  rw [List.getElem_drop]
  simp only [Nat.add_assoc,Array.getElem_toList] at this ⊢
  exact this
 dsimp only
 by_cases hk0:k > 0
 ·rw [if_pos hk0]
  by_cases c1:(j+1+k == b.size)=true
  ·rw [if_pos c1];exact wpS_pure (pP.r _ _ (I5.done X.ha X.hb (.inr (by simp at c1;omega))))
  ·rw [if_neg c1]
   have c1':¬ j+1+k=b.size:=by simpa using c1
   exact Xi X hl pP I5 h1 (by omega) (by omega) ev Z5
 ·rw [if_neg hk0]
  obtain rfl:k=0:=by omega
  exact Xi X hl pP I4 h1 (by omega) (by omega) ev Z5
theorem Wv (X:MCx prog w A s κ lt S a b) (hk:kindOf st=κ) (hl:∀ x∈a.toList.drop (a.size-1),∀ y∈b.toList,lt x y=false) (pP:LoP lt a b n st P) (I:MI lt a b o i j) (h1:i+1<a.size) (h2:j<b.size) (hn:n<=i+j) :
  wpS (model prog w) A E s (Aoa a b o i j m p r) P st:=by
 unfold Aoa
 obtain⟨y,ey,sy⟩:=X.gb j h2
 have dB:=Hv ey
 have pB:=Dj X.hb j
 rw [dB] at pB
 refine wpS_bind (Bc ey (wpS_bind ?_))
 refine Ft (B:=λ n=>!lt y (a[i+n]?.getD default)) X.h hk sy (by omega) (λ n hn=>?_) (λ n n' hii hi' hB=>?_) λ k hk1 hk2 hk3=>?_
 ·obtain⟨x,ex,sx⟩:=X.ga (i+n) (by omega)
  refine⟨x,ex,sx,?_⟩
  simp only [ex];rfl
 ·obtain⟨x,ex,sx⟩:=X.ga (i+n) (by omega)
  obtain⟨x',ex',sx'⟩:=X.ga (i+n') (by omega)
  simp only [ex,ex',Option.getD_some,Bool.not_eq_true'] at hB ⊢
  exact X.L.tr (Np X.L X.ha (by omega) ex ex') hB
 have I3:MI lt a b (o++a.extract i (i+k)) (i+k) j:=I.runA X.ha k (by omega) λ m hm z hz v hv=>by
  have:=hk2 m hm
  simp only [hz,Option.getD_some,Bool.not_eq_true'] at this
  rw [dB] at hv
  exact Ld X.L pB this v hv
 have Z3:∀ z∈a.toList.drop (i+k),lt z y=false:=λ z hz=>by
  obtain⟨n,hn,rfl⟩:=List.getElem_of_mem hz
  rw [List.length_drop,Array.length_toList] at hn
  have:=hk3 (k+n) (by omega) (by omega)
  rw [Array.getElem?_eq_getElem (show i+(k+n)<a.size by omega)] at this
  simp only [Option.getD_some,Bool.not_eq_false'] at this
  rw [List.getElem_drop]
  simp only [Nat.add_assoc,Array.getElem_toList]
  exact X.L.as this
 dsimp only
 by_cases hk0:k > 0
 ·rw [if_pos hk0]
  by_cases c1:(i+k+1 == a.size)=true
  ·rw [if_pos c1];exact wpS_pure (pP.r _ _ (I3.lastA X.ha X.hb hl (by simpa using c1)))
  rw [if_neg c1]
  have c1':¬ i+k+1=a.size:=by simpa using c1
  by_cases c2:(i+k == a.size)=true
  ·rw [if_pos c2];exact wpS_pure (pP.r _ _ (I3.done X.ha X.hb (.inl (by simp at c2;omega))))
  rw [if_neg c2]
  have c2':¬ i+k=a.size:=by simpa using c2
  exact X6 X hk hl pP I3 (by omega) h2 (by omega) ey Z3
 ·rw [if_neg hk0]
  obtain rfl:k=0:=by omega
  exact X6 X hk hl pP I h1 h2 (by omega) ey Z3
theorem V5 {st:SortSt}{a b:Array Keyed}{Q:Array Keyed->SortSt->Prop}(L:LtK lt) (h:Rw prog w A s κ lt S) (hk:kindOf st=κ) (sa:∀ x∈a.toList,S x) (sb:∀ x∈b.toList,S x) (ha:Em lt a.toList) (hb:Em lt b.toList)
  (a0:0<a.size) (b0:0<b.size) (hf:∀ x y,a[0]?=some x->b[0]?=some y->lt y x=true) (hl:∀ x∈a.toList.drop (a.size-1),∀ y∈b.toList,lt x y=false)
  (q:∀ g out,Oi lt a b out->Q out (stG st g)):wpS (model prog w) A E s (Acz a b) Q st:=by
 have ga:∀ i,i<a.size->∃ x,a[i]?=some x/\S x:=λ i hi=>⟨a[i],Array.getElem?_eq_getElem hi,sa _ (by simp)⟩
 have gb:∀ i,i<b.size->∃ x,b[i]?=some x/\S x:=λ i hi=>⟨b[i],Array.getElem?_eq_getElem hi,sb _ (by simp)⟩
 have X:MCx prog w A s κ lt S a b:=⟨L,h,ga,gb,ha,hb⟩
 refine wpS_bind (wpS_lift (wpAny_rule ⟨rfl,?_⟩))
 obtain⟨x0,ex0,_⟩:=ga 0 a0
 obtain⟨y0,ey0,_⟩:=gb 0 b0
 refine wpS_bind (Bc ey0 ?_)
 have I0:MI lt a b #[y0] 0 1:=by
  have I:MI lt a b #[] 0 0:=⟨List.Pairwise.nil,λ x hx=>by simp at hx,by simp⟩
  refine I.pushB hb ey0 λ z hz=>?_
  have d:=Hv ex0
  have sd:=Dj ha 0
  rw [d] at sd hz
  exact Ld L sd (L.as (hf _ _ ex0 ey0)) z hz
 dsimp only
 by_cases e1:(1 == b.size)=true
 ·rw [if_pos e1]
  exact wpS_pure (q _ _ (I0.done ha hb (.inr (by simp at e1;omega))))
 rw [if_neg e1]
 by_cases e2:(0+1 == a.size)=true
 ·rw [if_pos e2]
  exact wpS_pure (q _ _ (I0.lastA ha hb hl (by simpa using e2)))
 rw [if_neg e2]
 have hb1:1<b.size:=by
  have:¬ 1=b.size:=by simpa using e1
  omega
 have ha1:0+1<a.size:=by
  have:¬ 0+1=a.size:=by simpa using e2
  omega
 refine wpS_bind (wpS_get ?_)
 refine wpS_bind (wpS_mono (wpS_forRange (I:=λ x c st'=>∃ g o i j m,st'=stG st g/\c=(none,o,i,j,m)/\Mid lt a b o i j/\x<=i+j)
  (Q:=λ c st'=>∃ g r z,st'=stG st g/\c=(some r,z)/\Oi lt a b r) ?_ ?_ ⟨_,_,_,_,_,rfl,rfl,⟨I0,ha1,hb1⟩,by omega⟩) ?_)
 ·rintro x c st' _ hx ⟨g,o,i,j,m,rfl,rfl,hM,hc⟩
  dsimp only
  -- one by one
  refine wpS_bind (wpS_mono (wpS_forRange (I:=λ x c st'=>∃ o' i' j' ac bc,st'=stG st g/\c=(none,o',i',j',ac,bc)/\Mid lt a b o' i' j'/\i+j+x<=i'+j')
   (Q:=λ c st'=>st'=stG st g/\((∃ r z,c=(some r,z)/\Oi lt a b r)\/∃ o' i' j' ac bc,c=(none,o',i',j',ac,bc)/\Mid lt a b o' i' j'/\i+j+1<=i'+j')) ?_ ?_ ⟨_,_,_,_,_,rfl,rfl,hM,by omega⟩) ?_)
  ·rintro x c st' _ hx ⟨o',i',j',ac,bc,rfl,rfl,⟨hI,h1,h2⟩,hc⟩
   dsimp only
   obtain⟨y,ey,sy⟩:=gb j' h2
   obtain⟨z,ez,sz⟩:=ga i' (by omega)
   refine wpS_bind (Bc ey (wpS_bind (Bc ez (wpS_bind (Q6 h hk sy sz ?_)))))
   have dA:=Hv ez
   have dB:=Hv ey
   have pA:=Dj ha i'
   have pB:=Dj hb j'
   rw [dA] at pA
   rw [dB] at pB
   cases hw:lt y z with
   | true =>
    have I':=hI.pushB hb ey (by rw [dA];exact Ld L pA (L.as hw))
    refine wpS_bind (Bc ey ?_)
    (try dsimp only)
    by_cases c1:(j'+1 == b.size)=true
    ·rw [if_pos c1];exact wpS_pure ⟨rfl,.inl ⟨_,_,rfl,I'.done ha hb (.inr (by simp at c1;omega))⟩⟩
    ·rw [if_neg c1]
     have c1':¬ j'+1=b.size:=by simpa using c1
     have hM':Mid lt a b (o'.push y) i' (j'+1):=⟨I',h1,by omega⟩
     by_cases c2:bc+1 ≥ m
     ·rw [if_pos c2];exact wpS_pure ⟨rfl,.inr ⟨_,_,_,_,_,rfl,hM',by omega⟩⟩
     ·rw [if_neg c2];exact wpS_pure ⟨_,_,_,_,_,rfl,rfl,hM',by omega⟩
   | false =>
    have I':=hI.pushA ha ez (by rw [dB];exact Ld L pB hw)
    refine wpS_bind (Bc ez ?_)
    (try dsimp only)
    by_cases c1:(i'+1+1 == a.size)=true
    ·rw [if_pos c1];exact wpS_pure ⟨rfl,.inl ⟨_,_,rfl,I'.lastA ha hb hl (by simpa using c1)⟩⟩
    ·rw [if_neg c1]
     have c1':¬ i'+1+1=a.size:=by simpa using c1
     have hM':Mid lt a b (o'.push z) (i'+1) j':=⟨I',by omega,h2⟩
     by_cases c2:ac+1 ≥ m
     ·rw [if_pos c2];exact wpS_pure ⟨rfl,.inr ⟨_,_,_,_,_,rfl,hM',by omega⟩⟩
     ·rw [if_neg c2];exact wpS_pure ⟨_,_,_,_,_,rfl,rfl,hM',by omega⟩
  ·rintro c st' ⟨o',i',j',ac,bc,rfl,rfl,hM',hc⟩
   exact⟨rfl,.inr ⟨_,_,_,_,_,rfl,hM',by omega⟩⟩
  ·rintro c st' ⟨rfl,⟨r,z,rfl,hr⟩|⟨o',i',j',ac,bc,rfl,hM',hc'⟩⟩
   ·exact wpS_pure ⟨_,_,_,rfl,rfl,hr⟩
   ·dsimp only
    -- by leaps
    refine wpS_bind (wpS_lift (wpAny_rule ⟨rfl,?_⟩))
    refine wpS_bind (wpS_mono (wpS_forRange (I:=λ x c st'=>∃ g o2 i2 j2 m ac bc,st'=stG st g/\c=(none,o2,i2,j2,m,ac,bc)/\Mid lt a b o2 i2 j2/\i'+j'<=i2+j2)
     (Q:=λ c st'=>∃ g,st'=stG st g/\((∃ r z,c=(some r,z)/\Oi lt a b r)\/∃ o2 i2 j2 z,c=(none,o2,i2,j2,z)/\Mid lt a b o2 i2 j2/\i'+j'<=i2+j2)) ?_ ?_ ⟨_,_,_,_,_,_,_,rfl,rfl,hM',Nat.le_refl _⟩) ?_)
    ·rintro x c st' _ hx ⟨g,o2,i2,j2,m2,ac,bc,rfl,rfl,⟨hI,h1,h2⟩,hc2⟩
     dsimp only
     by_cases cm:m2 > 1
     ·rw [if_pos cm]
      refine wpS_bind (wpS_modify ?_)
      refine Wv (st:=stG st (m2-1)) (o:=o2) (i:=i2) (j:=j2) (m:=m2-1) (p:=ac) (r:=bc) (n:=i'+j') X hk hl ⟨?_,?_,?_⟩ hI h1 h2 hc2
      ·exact λ r z hr=>⟨_,rfl,.inl ⟨_,_,rfl,hr⟩⟩
      ·exact λ o i j z hM hn=>⟨_,rfl,.inr ⟨_,_,_,_,rfl,hM,hn⟩⟩
      ·exact λ o i j z hM hn=>⟨_,_,_,_,_,_,_,rfl,rfl,hM,hn⟩
     ·rw [if_neg cm]
      refine wpS_bind (wpS_modify ?_)
      refine Wv (st:=stG st (m2)) (o:=o2) (i:=i2) (j:=j2) (m:=m2) (p:=ac) (r:=bc) (n:=i'+j') X hk hl ⟨?_,?_,?_⟩ hI h1 h2 hc2
      ·exact λ r z hr=>⟨_,rfl,.inl ⟨_,_,rfl,hr⟩⟩
      ·exact λ o i j z hM hn=>⟨_,rfl,.inr ⟨_,_,_,_,rfl,hM,hn⟩⟩
      ·exact λ o i j z hM hn=>⟨_,_,_,_,_,_,_,rfl,rfl,hM,hn⟩
    ·rintro c st' ⟨g,o2,i2,j2,m,ac,bc,rfl,rfl,hM2,hc2⟩
     exact⟨_,rfl,.inr ⟨_,_,_,_,rfl,hM2,hc2⟩⟩
    ·rintro c st' ⟨g,rfl,⟨r,z,rfl,hr⟩|⟨o2,i2,j2,z,rfl,hM2,hc2⟩⟩
     ·exact wpS_pure ⟨_,_,_,rfl,rfl,hr⟩
     ·exact wpS_bind (wpS_modify (wpS_pure ⟨_,_,_,_,_,rfl,rfl,hM2,by show x+1<=i2+j2;omega⟩))
 ·rintro c st' ⟨g,o,i,j,m,rfl,rfl,⟨_,h1,h2⟩,hc⟩
  exfalso
  have:max 0 (a.size+b.size)<=i+j:=hc
  omega
 ·rintro c st' ⟨g,r,z,rfl,rfl,hr⟩
  exact wpS_pure (q _ _ hr)
end
structure HI (lt:Keyed->Keyed->Bool) (a b out:Array Keyed) (i j:Nat):Prop where
 asc:Em lt out.toList.reverse
 hgh:∀ x∈out.toList,∀ y,y∈a.toList.take i\/y∈b.toList.take j->lt x y=false
 prm:(a.toList.take i++(b.toList.take j++out.toList.reverse)).Perm (a.toList++b.toList)
section
variable {lt:Keyed->Keyed->Bool}{a b out:Array Keyed}{i j:Nat}
theorem Om (L:LtK lt) {x y:Keyed}{l:List Keyed}(h:Em lt (l++[x])) (e:lt y x=false):∀ z∈l++[x],lt y z=false:=λ z hz=>by
 rcases List.mem_append.mp hz with hz|hz
 ·exact L.tr ((List.pairwise_append.mp h).2.2 z hz x List.mem_cons_self) e
 ·cases List.mem_singleton.mp hz;exact e
theorem Jj {arr:Array Keyed}{i:Nat}{x:Keyed}(h:arr[i]?=some x):arr.toList.take (i+1)=arr.toList.take i++[x]:=by
 obtain⟨hi,rfl⟩:=Array.getElem?_eq_some_iff.mp h
 rw [List.take_succ_eq_append_getElem (by simpa using hi)]
 simp
theorem Dw {arr:Array Keyed}(h:Em lt arr.toList) (i:Nat):Em lt (arr.toList.take i):=List.Pairwise.sublist (List.take_sublist i _) h
theorem HI.pushA (I:HI lt a b out (i+1) j) (ha:Em lt a.toList) {y:Keyed}(e:a[i]?=some y) (h:∀ z∈b.toList.take j,lt y z=false):HI lt a b (out.push y) i j:=by
 have d:=Jj e
 have sa:=Dw ha (i+1)
 rw [d] at sa
 refine⟨?_,λ x hx z hz=>?_,?_⟩
 ·rw [Array.toList_push,List.reverse_append]
  refine List.pairwise_cons.mpr ⟨λ x hx=>?_,I.asc⟩
  exact I.hgh x (List.mem_reverse.mp hx) _ (.inl (by rw [d];exact List.mem_append_right _ List.mem_cons_self))
 ·rw [Array.toList_push] at hx
  rcases List.mem_append.mp hx with hx|hx
  ·exact I.hgh x hx z (hz.imp (λ q=>by rw [d];exact List.mem_append_left _ q) id)
  ·cases List.mem_singleton.mp hx
   rcases hz with hz|hz
   ·exact (List.pairwise_append.mp sa).2.2 z hz _ List.mem_cons_self
   ·exact h z hz
 ·refine List.Perm.trans ?_ I.prm
  rw [Array.toList_push,d,List.append_assoc,List.reverse_append]
  refine List.Perm.append_left _ ?_
  exact List.perm_middle
theorem HI.pushB (I:HI lt a b out i (j+1)) (hb:Em lt b.toList) {y:Keyed}(e:b[j]?=some y) (h:∀ z∈a.toList.take i,lt y z=false):HI lt a b (out.push y) i j:=by
 have d:=Jj e
 have sb:=Dw hb (j+1)
 rw [d] at sb
 refine⟨?_,λ x hx z hz=>?_,?_⟩
 ·rw [Array.toList_push,List.reverse_append]
  refine List.pairwise_cons.mpr ⟨λ x hx=>?_,I.asc⟩
  exact I.hgh x (List.mem_reverse.mp hx) _ (.inr (by rw [d];exact List.mem_append_right _ List.mem_cons_self))
 ·rw [Array.toList_push] at hx
  rcases List.mem_append.mp hx with hx|hx
  ·exact I.hgh x hx z (hz.imp id λ q=>by rw [d];exact List.mem_append_left _ q)
  ·cases List.mem_singleton.mp hx
   rcases hz with hz|hz
   ·exact h z hz
   ·exact (List.pairwise_append.mp sb).2.2 z hz _ List.mem_cons_self
 ·refine List.Perm.trans ?_ I.prm
  rw [Array.toList_push,d,List.reverse_append,List.append_assoc]
  exact List.Perm.refl _
theorem Y9 {arr:Array Keyed}{i k:Nat}(h:i+k<arr.size) (o:Array Keyed):o++(arr.extract i (i+k+1)).reverse=o.push arr[i+k]++(arr.extract i (i+k)).reverse:=by
 have e:arr.extract i (i+k+1)=(arr.extract i (i+k)).push arr[i+k]:=Oz h
 rw [e]
 refine Array.toList_inj.mp ?_
 simp only [Array.toList_append,Array.toList_reverse,Array.toList_push,List.reverse_append,List.reverse_cons,List.reverse_nil,List.nil_append,List.append_assoc]
theorem HI.runA {m:Nat}(ha:Em lt a.toList):∀ (k:Nat) {out:Array Keyed},HI lt a b out (m+k) j->m+k<=a.size->(∀ n,m<=n->n<m+k->∀ y,a[n]?=some y->∀ z∈b.toList.take j,lt y z=false)->HI lt a b (out++(a.extract m (m+k)).reverse) m j
 | 0,out,I,_,_=>by rw [ext_nil];simpa using I
 | k+1,out,I,hk,h=>by
  have e:a[m+k]?=some a[m+k]:=Array.getElem?_eq_getElem (by omega)
  have I':=HI.pushA (i:=m+k) I ha e (h (m+k) (by omega) (by omega) _ e)
  have:=HI.runA ha k I' (by omega) λ n h1 h2=>h n h1 (by omega)
  rw [<-Y9 (by omega)] at this
  exact this
theorem HI.runB {m:Nat}(hb:Em lt b.toList):∀ (k:Nat) {out:Array Keyed},HI lt a b out i (m+k)->m+k<=b.size->(∀ n,m<=n->n<m+k->∀ y,b[n]?=some y->∀ z∈a.toList.take i,lt y z=false)->HI lt a b (out++(b.extract m (m+k)).reverse) i m
 | 0,out,I,_,_=>by rw [ext_nil];simpa using I
 | k+1,out,I,hk,h=>by
  have e:b[m+k]?=some b[m+k]:=Array.getElem?_eq_getElem (by omega)
  have I':=HI.pushB (j:=m+k) I hb e (h (m+k) (by omega) (by omega) _ e)
  have:=HI.runB hb k I' (by omega) λ n h1 h2=>h n h1 (by omega)
  rw [<-Y9 (by omega)] at this
  exact this
theorem G7 (arr:Array Keyed) (i:Nat):(arr.extract 0 i).toList=arr.toList.take i:=by
 rw [Array.toList_extract,List.extract_eq_take_drop]
 simp
theorem HI.done (I:HI lt a b out i j) (ha:Em lt a.toList) (hb:Em lt b.toList) (h:i=0\/j=0):Oi lt a b (a.extract 0 i++b.extract 0 j++out.reverse):=by
 unfold Oi
 rw [Array.toList_append,Array.toList_append,G7,G7,Array.toList_reverse,List.append_assoc]
 refine⟨List.pairwise_append.mpr ⟨Dw ha i,List.pairwise_append.mpr ⟨Dw hb j,I.asc,λ x hx y hy=>I.hgh y (List.mem_reverse.mp hy) x (.inr hx)⟩,λ x hx y hy=>?_⟩,I.prm⟩
 rcases List.mem_append.mp hy with hy|hy
 ·rcases h with rfl|rfl
  ·simp at hx
  ·simp at hy
 ·exact I.hgh y (List.mem_reverse.mp hy) x (.inl hx)
theorem HI.firstB (I:HI lt a b out i j) (ha:Em lt a.toList) (hb:Em lt b.toList) (hf:∀ x∈b.toList.take 1,∀ y∈a.toList,lt y x=false) (h:j=1):Oi lt a b (b.extract 0 j++a.extract 0 i++out.reverse):=by
 unfold Oi
 subst h
 rw [Array.toList_append,Array.toList_append,G7,G7,Array.toList_reverse,List.append_assoc]
 refine⟨List.pairwise_append.mpr ⟨Dw hb 1,List.pairwise_append.mpr ⟨Dw ha i,I.asc,λ x hx y hy=>I.hgh y (List.mem_reverse.mp hy) x (.inl hx)⟩,λ x hx y hy=>?_⟩,?_⟩
 ·rcases List.mem_append.mp hy with hy|hy
  ·exact hf x hx y (List.mem_of_mem_take hy)
  ·exact I.hgh y (List.mem_reverse.mp hy) x (.inr hx)
 ·refine List.Perm.trans ?_ I.prm
  rw [<-List.append_assoc,<-List.append_assoc]
  exact List.Perm.append_right _ List.perm_append_comm
end
noncomputable def Acu (lt:Keyed->Keyed->Bool) (a b o:Array Keyed) (i j:Nat):Prop:=HI lt a b o i j/\0<i/\i<=a.size/\1<j/\j<=b.size
noncomputable abbrev HiT:Type:=Option (Array Keyed) × Nat × Nat × Array Keyed × Nat × Nat × Nat
noncomputable def Akw (a b o:Array Keyed) (i j m p r:Nat):StateT SortSt Sem (ForInStep HiT) :=
 elem' a (i-1) >>= λ v=>if (i-1 == 0)=true then pure (.done (some (a.extract 0 (i-1)++b.extract 0 j++(o.push v).reverse),i-1,j,o.push v,m,p,r))
  else if (decide (p<7) && decide (r<7))=true then pure (.done (none,i-1,j,o.push v,m,p,r)) else pure (.yield (none,i-1,j,o.push v,m,p,r))
noncomputable def Ake (a b o:Array Keyed) (i j m p r:Nat):StateT SortSt Sem (ForInStep HiT) :=
 elem' b (j-1) >>= λ y=>if (j-1 == 1)=true then pure (.done (some (b.extract 0 (j-1)++a.extract 0 i++(o.push y).reverse),i,j-1,o.push y,m,p,r))
  else elem' a (i-1) >>= λ v=>Kl true v b 0 (j-1) (j-1-1) >>= λ t=>match t with
   | some k=>if j-1-k > 0 then (if (k == 1)=true then pure (.done (some (b.extract 0 k++a.extract 0 i++(o.push y++(b.extract k (j-1)).reverse).reverse),i,k,o.push y++(b.extract k (j-1)).reverse,m,p,j-1-k))
     else if (k == 0)=true then pure (.done (some (a.extract 0 i++b.extract 0 k++(o.push y++(b.extract k (j-1)).reverse).reverse),i,k,o.push y++(b.extract k (j-1)).reverse,m,p,j-1-k))
     else Akw a b (o.push y++(b.extract k (j-1)).reverse) i k m p (j-1-k)) else Akw a b (o.push y) i (j-1) m p (j-1-k)
   | _=>pure (.done (some (a.extract 0 i++b.extract 0 (j-1)++(o.push y).reverse),i,j-1,o.push y,m,p,r))
noncomputable def Aom (a b o:Array Keyed) (i j m p r:Nat):StateT SortSt Sem (ForInStep HiT) :=
 elem' b (j-1) >>= λ y=>Kl false y a 0 i (i-1) >>= λ t=>match t with
  | some k=>if i-k > 0 then (if (k == 0)=true then pure (.done (some (a.extract 0 k++b.extract 0 j++(o++(a.extract k i).reverse).reverse),k,j,o++(a.extract k i).reverse,m,i-k,r))
    else Ake a b (o++(a.extract k i).reverse) k j m (i-k) r) else Ake a b o i j m (i-k) r
  | _=>pure (.done (some (a.extract 0 i++b.extract 0 j++o.reverse),i,j,o,m,p,r))
structure HiP (lt:Keyed->Keyed->Bool) (a b:Array Keyed) (n:Nat) (st:SortSt) (P:ForInStep HiT->SortSt->Prop):Prop where
 r:∀ r z,Oi lt a b r->P (.done (some r,z)) st
 d:∀ o i j z,Acu lt a b o i j->i+j<=n->P (.done (none,i,j,o,z)) st
 y:∀ o i j z,Acu lt a b o i j->i+j<=n->P (.yield (none,i,j,o,z)) st
section
variable {prog:Program}{w:World}{A:Around}{E:Value->Shared->Prop}{s:Shared}{lt:Keyed->Keyed->Bool}{κ:SortKind}{S:Keyed->Prop}{a b o:Array Keyed}{i j m p r n:Nat}{st:SortSt}{P:ForInStep HiT->SortSt->Prop}
theorem Zn (X:MCx prog w A s κ lt S a b) (pP:HiP lt a b n st P) (I:HI lt a b o i j) (h1:0<i) (h1':i<=a.size) (h2:1<j) (h2':j<=b.size) (hn:i+j<=n) {v:Keyed}(ev:a[i-1]?=some v) (Z:∀ z∈b.toList.take j,lt v z=false) :
  wpS (model prog w) A E s (Akw a b o i j m p r) P st:=by
 unfold Akw
 refine wpS_bind (Bc ev ?_)
 have I6:=HI.pushA (i:=i-1) (by rw [show i-1+1=i by omega];exact I) X.ha ev Z
 by_cases d2:(i-1 == 0)=true
 ·rw [if_pos d2];exact wpS_pure (pP.r _ _ (I6.done X.ha X.hb (.inl (by simpa using d2))))
 rw [if_neg d2]
 have d2':¬ i-1=0:=by simpa using d2
 split
 ·exact wpS_pure (pP.d _ _ _ _ ⟨I6,by omega,by omega,h2,h2'⟩ (by omega))
 ·exact wpS_pure (pP.y _ _ _ _ ⟨I6,by omega,by omega,h2,h2'⟩ (by omega))
theorem Aaa (X:MCx prog w A s κ lt S a b) (hk:kindOf st=κ) (hf:∀ x∈b.toList.take 1,∀ y∈a.toList,lt y x=false) (pP:HiP lt a b n st P) (I:HI lt a b o i j) (h1:0<i) (h1':i<=a.size) (h2:1<j) (h2':j<=b.size) (hn:i+j<=n) {y:Keyed}(ey:b[j-1]?=some y) (Z:∀ z∈a.toList.take i,lt y z=false) :
  wpS (model prog w) A E s (Ake a b o i j m p r) P st:=by
 unfold Ake
 refine wpS_bind (Bc ey ?_)
 have I4:=HI.pushB (j:=j-1) (by rw [show j-1+1=j by omega];exact I) X.hb ey Z
 by_cases d1:(j-1 == 1)=true
 ·rw [if_pos d1];exact wpS_pure (pP.r _ _ (I4.firstB X.ha X.hb hf (by simpa using d1)))
 rw [if_neg d1]
 have d1':¬ j-1=1:=by simpa using d1
 obtain⟨v,ev,sv⟩:=X.ga (i-1) (by omega)
 have dA:=Jj ev
 rw [show i-1+1=i by omega] at dA
 have pA:=Dw X.ha i
 rw [dA] at pA
 refine wpS_bind (Bc ev (wpS_bind ?_))
 refine Ft (B:=λ n=>lt (b[n]?.getD default) v) X.h hk sv (by omega) (λ n hn=>?_) (λ n n' hii hi' hB=>?_) λ k hk1 hk2 hk3=>?_
 ·obtain⟨x,ex,sx⟩:=X.gb n (by omega)
  refine⟨x,by rw [Nat.zero_add];exact ex,sx,?_⟩
  simp only [ex];rfl
 ·obtain⟨x,ex,sx⟩:=X.gb n (by omega)
  obtain⟨x',ex',sx'⟩:=X.gb n' (by omega)
  simp only [ex,ex',Option.getD_some] at hB ⊢
  cases hx:lt x v with
  | true=>rfl
  | false=>rw [X.L.tr hx (Np X.L X.hb (by omega) ex ex')] at hB;cases hB
 have I5:HI lt a b (o.push y++(b.extract k (j-1)).reverse) i k:=by
  have:=HI.runB (m:=k) X.hb (j-1-k) (out:=o.push y) (by rw [show k+(j-1-k)=j-1 by omega];exact I4) (by omega) λ n q1 q2 z hz u hu=>by
   have:=hk3 n q1 (by omega)
   simp only [hz,Option.getD_some] at this
   rw [dA] at hu
   exact Om X.L pA this u hu
  rwa [show k+(j-1-k)=j-1 by omega] at this
 have Z5:∀ z∈b.toList.take k,lt v z=false:=λ z hz=>by
  obtain⟨n,hn,rfl⟩:=List.getElem_of_mem hz
  rw [List.length_take,Array.length_toList] at hn
  have:=hk2 n (by omega)
  rw [Array.getElem?_eq_getElem (show n<b.size by omega)] at this
  simp only [Option.getD_some] at this
  rw [List.getElem_take]
  simp only [Array.getElem_toList]
  exact X.L.as this
 dsimp only
 by_cases hk0:j-1-k > 0
 ·rw [if_pos hk0]
  by_cases c1:(k == 1)=true
  ·rw [if_pos c1];exact wpS_pure (pP.r _ _ (I5.firstB X.ha X.hb hf (by simpa using c1)))
  rw [if_neg c1]
  have c1':¬ k=1:=by simpa using c1
  by_cases c2:(k == 0)=true
  ·rw [if_pos c2];exact wpS_pure (pP.r _ _ (I5.done X.ha X.hb (.inr (by simpa using c2))))
  rw [if_neg c2]
  have c2':¬ k=0:=by simpa using c2
  exact Zn X pP I5 h1 h1' (by omega) (by omega) (by omega) ev Z5
 ·rw [if_neg hk0]
  obtain rfl:k=j-1:=by omega
  exact Zn X pP I4 h1 h1' (by omega) (by omega) (by omega) ev Z5
theorem Xr (X:MCx prog w A s κ lt S a b) (hk:kindOf st=κ) (hf:∀ x∈b.toList.take 1,∀ y∈a.toList,lt y x=false) (pP:HiP lt a b n st P) (I:HI lt a b o i j) (h1:0<i) (h1':i<=a.size) (h2:1<j) (h2':j<=b.size) (hn:i+j<=n) :
  wpS (model prog w) A E s (Aom a b o i j m p r) P st:=by
 unfold Aom
 obtain⟨y,ey,sy⟩:=X.gb (j-1) (by omega)
 have dB:=Jj ey
 rw [show j-1+1=j by omega] at dB
 have pB:=Dw X.hb j
 rw [dB] at pB
 refine wpS_bind (Bc ey (wpS_bind ?_))
 refine Ft (B:=λ n=>!lt y (a[n]?.getD default)) X.h hk sy (by omega) (λ n hn=>?_) (λ n n' hii hi' hB=>?_) λ k hk1 hk2 hk3=>?_
 ·obtain⟨x,ex,sx⟩:=X.ga n (by omega)
  refine⟨x,by rw [Nat.zero_add];exact ex,sx,?_⟩
  simp only [ex];rfl
 ·obtain⟨x,ex,sx⟩:=X.ga n (by omega)
  obtain⟨x',ex',sx'⟩:=X.ga n' (by omega)
  simp only [ex,ex',Option.getD_some,Bool.not_eq_true'] at hB ⊢
  exact X.L.tr (Np X.L X.ha (by omega) ex ex') hB
 have I3:HI lt a b (o++(a.extract k i).reverse) k j:=by
  have:=HI.runA (m:=k) X.ha (i-k) (out:=o) (by rw [show k+(i-k)=i by omega];exact I) (by omega) λ n q1 q2 z hz v hv=>by
   have:=hk3 n q1 (by omega)
   simp only [hz,Option.getD_some,Bool.not_eq_false'] at this
   rw [dB] at hv
   exact Om X.L pB (X.L.as this) v hv
  rwa [show k+(i-k)=i by omega] at this
 have Z3:∀ z∈a.toList.take k,lt y z=false:=λ z hz=>by
  obtain⟨n,hn,rfl⟩:=List.getElem_of_mem hz
  rw [List.length_take,Array.length_toList] at hn
  have:=hk2 n (by omega)
  rw [Array.getElem?_eq_getElem (show n<a.size by omega)] at this
  simp only [Option.getD_some,Bool.not_eq_true'] at this
  rw [List.getElem_take]
  simp only [Array.getElem_toList]
  exact this
 dsimp only
 by_cases hk0:i-k > 0
 ·rw [if_pos hk0]
  by_cases c1:(k == 0)=true
  ·rw [if_pos c1];exact wpS_pure (pP.r _ _ (I3.done X.ha X.hb (.inl (by simpa using c1))))
  rw [if_neg c1]
  have c1':¬ k=0:=by simpa using c1
  exact Aaa X hk hf pP I3 (by omega) (by omega) h2 h2' (by omega) ey Z3
 ·rw [if_neg hk0]
  obtain rfl:k=i:=by omega
  exact Aaa X hk hf pP I h1 h1' h2 h2' (by omega) ey Z3
theorem V1 {Q:Array Keyed->SortSt->Prop}(X:MCx prog w A s κ lt S a b) (hk:kindOf st=κ)
  (a0:0<a.size) (b0:0<b.size) (hf:∀ x∈b.toList.take 1,∀ y∈a.toList,lt y x=false) (hl:∀ x y,a[a.size-1]?=some x->y∈b.toList->lt x y=false)
  (q:∀ g out,Oi lt a b out->Q out (stG st g)):wpS (model prog w) A E s (Ac0 a b) Q st:=by
 refine wpS_bind (wpS_lift (wpAny_rule ⟨rfl,?_⟩))
 obtain⟨x0,ex0,_⟩:=X.ga (a.size-1) (by omega)
 refine wpS_bind (Bc ex0 ?_)
 have I0:HI lt a b #[x0] (a.size-1) b.size:=by
  have I:HI lt a b #[] (a.size-1+1) b.size:=⟨List.Pairwise.nil,λ x hx=>by simp at hx,by rw [show a.size-1+1=a.size by omega,List.take_of_length_le (by simp),List.take_of_length_le (by simp)];simp⟩
  exact I.pushA X.ha ex0 λ z hz=>hl _ _ ex0 (List.mem_of_mem_take hz)
 dsimp only
 by_cases e1:(a.size-1 == 0)=true
 ·rw [if_pos e1]
  exact wpS_pure (q _ _ (I0.done X.ha X.hb (.inl (by simpa using e1))))
 rw [if_neg e1]
 by_cases e2:(b.size == 1)=true
 ·rw [if_pos e2]
  exact wpS_pure (q _ _ (I0.firstB X.ha X.hb hf (by simpa using e2)))
 rw [if_neg e2]
 have ha1:¬ a.size-1=0:=by simpa using e1
 have hb1:¬ b.size=1:=by simpa using e2
 refine wpS_bind (wpS_get ?_)
 refine wpS_bind (wpS_mono (wpS_forRange (I:=λ x c st'=>∃ g o i j m,st'=stG st g/\c=(none,i,j,o,m)/\Acu lt a b o i j/\x+i+j<=a.size+b.size)
  (Q:=λ c st'=>∃ g r z,st'=stG st g/\c=(some r,z)/\Oi lt a b r) ?_ ?_ ⟨_,_,_,_,_,rfl,rfl,⟨I0,by omega,by omega,by omega,Nat.le_refl _⟩,by omega⟩) ?_)
 ·rintro x c st' _ hx ⟨g,o,i,j,m,rfl,rfl,hM,hc⟩
  dsimp only
  -- one by one
  refine wpS_bind (wpS_mono (wpS_forRange (I:=λ x c st'=>∃ o' i' j' ac bc,st'=stG st g/\c=(none,i',j',o',ac,bc)/\Acu lt a b o' i' j'/\i'+j'+x<=i+j)
   (Q:=λ c st'=>st'=stG st g/\((∃ r z,c=(some r,z)/\Oi lt a b r)\/∃ o' i' j' ac bc,c=(none,i',j',o',ac,bc)/\Acu lt a b o' i' j'/\i'+j'+1<=i+j)) ?_ ?_ ⟨_,_,_,_,_,rfl,rfl,hM,by omega⟩) ?_)
  ·rintro x c st' _ hx ⟨o',i',j',ac,bc,rfl,rfl,⟨hI,h1,h1',h2,h2'⟩,hc⟩
   dsimp only
   obtain⟨y,ey,sy⟩:=X.gb (j'-1) (by omega)
   obtain⟨z,ez,sz⟩:=X.ga (i'-1) (by omega)
   refine wpS_bind (Bc ey (wpS_bind (Bc ez (wpS_bind (Q6 X.h hk sy sz ?_)))))
   have dA:=Jj ez
   have dB:=Jj ey
   rw [show i'-1+1=i' by omega] at dA
   rw [show j'-1+1=j' by omega] at dB
   have pA:=Dw X.ha i'
   have pB:=Dw X.hb j'
   rw [dA] at pA
   rw [dB] at pB
   cases hw:lt y z with
   | true =>
    have I':=HI.pushA (i:=i'-1) (by rw [show i'-1+1=i' by omega];exact hI) X.ha ez (by rw [dB];exact Om X.L pB (X.L.as hw))
    refine wpS_bind (Bc ez ?_)
    (try dsimp only)
    by_cases c1:(i'-1 == 0)=true
    ·rw [if_pos c1];exact wpS_pure ⟨rfl,.inl ⟨_,_,rfl,I'.done X.ha X.hb (.inl (by simpa using c1))⟩⟩
    ·rw [if_neg c1]
     have c1':¬ i'-1=0:=by simpa using c1
     have hM':Acu lt a b (o'.push z) (i'-1) j':=⟨I',by omega,by omega,h2,h2'⟩
     by_cases c2:ac+1 ≥ m
     ·rw [if_pos c2];exact wpS_pure ⟨rfl,.inr ⟨_,_,_,_,_,rfl,hM',by omega⟩⟩
     ·rw [if_neg c2];exact wpS_pure ⟨_,_,_,_,_,rfl,rfl,hM',by omega⟩
   | false =>
    have I':=HI.pushB (j:=j'-1) (by rw [show j'-1+1=j' by omega];exact hI) X.hb ey (by rw [dA];exact Om X.L pA hw)
    refine wpS_bind (Bc ey ?_)
    (try dsimp only)
    by_cases c1:(j'-1 == 1)=true
    ·rw [if_pos c1];exact wpS_pure ⟨rfl,.inl ⟨_,_,rfl,I'.firstB X.ha X.hb hf (by simpa using c1)⟩⟩
    ·rw [if_neg c1]
     have c1':¬ j'-1=1:=by simpa using c1
     have hM':Acu lt a b (o'.push y) i' (j'-1):=⟨I',h1,h1',by omega,by omega⟩
     by_cases c2:bc+1 ≥ m
     ·rw [if_pos c2];exact wpS_pure ⟨rfl,.inr ⟨_,_,_,_,_,rfl,hM',by omega⟩⟩
     ·rw [if_neg c2];exact wpS_pure ⟨_,_,_,_,_,rfl,rfl,hM',by omega⟩
  ·rintro c st' ⟨o',i',j',ac,bc,rfl,rfl,hM',hc⟩
   exact⟨rfl,.inr ⟨_,_,_,_,_,rfl,hM',by omega⟩⟩
  ·rintro c st' ⟨rfl,⟨r,z,rfl,hr⟩|⟨o',i',j',ac,bc,rfl,hM',hc'⟩⟩
   ·exact wpS_pure ⟨_,_,_,rfl,rfl,hr⟩
   ·dsimp only
    -- by leaps
    refine wpS_bind (wpS_lift (wpAny_rule ⟨rfl,?_⟩))
    refine wpS_bind (wpS_mono (wpS_forRange (I:=λ x c st'=>∃ g o2 i2 j2 m ac bc,st'=stG st g/\c=(none,i2,j2,o2,m,ac,bc)/\Acu lt a b o2 i2 j2/\i2+j2<=i'+j')
     (Q:=λ c st'=>∃ g,st'=stG st g/\((∃ r z,c=(some r,z)/\Oi lt a b r)\/∃ o2 i2 j2 z,c=(none,i2,j2,o2,z)/\Acu lt a b o2 i2 j2/\i2+j2<=i'+j')) ?_ ?_ ⟨_,_,_,_,_,_,_,rfl,rfl,hM',Nat.le_refl _⟩) ?_)
    ·rintro x c st' _ hx ⟨g,o2,i2,j2,m2,ac,bc,rfl,rfl,⟨hI,h1,h1',h2,h2'⟩,hc2⟩
     dsimp only
     by_cases cm:m2 > 1
     ·rw [if_pos cm]
      refine wpS_bind (wpS_modify ?_)
      refine Xr (st:=stG st (m2-1)) (o:=o2) (i:=i2) (j:=j2) (m:=m2-1) (p:=ac) (r:=bc) (n:=i'+j') X hk hf ⟨?_,?_,?_⟩ hI h1 h1' h2 h2' hc2
      ·exact λ r z hr=>⟨_,rfl,.inl ⟨_,_,rfl,hr⟩⟩
      ·exact λ o i j z hM hn=>⟨_,rfl,.inr ⟨_,_,_,_,rfl,hM,hn⟩⟩
      ·exact λ o i j z hM hn=>⟨_,_,_,_,_,_,_,rfl,rfl,hM,hn⟩
     ·rw [if_neg cm]
      refine wpS_bind (wpS_modify ?_)
      refine Xr (st:=stG st m2) (o:=o2) (i:=i2) (j:=j2) (m:=m2) (p:=ac) (r:=bc) (n:=i'+j') X hk hf ⟨?_,?_,?_⟩ hI h1 h1' h2 h2' hc2
      ·exact λ r z hr=>⟨_,rfl,.inl ⟨_,_,rfl,hr⟩⟩
      ·exact λ o i j z hM hn=>⟨_,rfl,.inr ⟨_,_,_,_,rfl,hM,hn⟩⟩
      ·exact λ o i j z hM hn=>⟨_,_,_,_,_,_,_,rfl,rfl,hM,hn⟩
    ·rintro c st' ⟨g,o2,i2,j2,m,ac,bc,rfl,rfl,hM2,hc2⟩
     exact⟨_,rfl,.inr ⟨_,_,_,_,rfl,hM2,hc2⟩⟩
    ·rintro c st' ⟨g,rfl,⟨r,z,rfl,hr⟩|⟨o2,i2,j2,z,rfl,hM2,hc2⟩⟩
     ·exact wpS_pure ⟨_,_,_,rfl,rfl,hr⟩
     ·exact wpS_bind (wpS_modify (wpS_pure ⟨_,_,_,_,_,rfl,rfl,hM2,by show x+1+i2+j2<=a.size+b.size;omega⟩))
 ·rintro c st' ⟨g,o,i,j,m,rfl,rfl,⟨_,h1,_,h2,_⟩,hc⟩
  exfalso
  have:max 0 (a.size+b.size)+i+j<=a.size+b.size:=hc
  omega
 ·rintro c st' ⟨g,r,z,rfl,rfl,hr⟩
  exact wpS_pure (q _ _ hr)
end
theorem Va (sa:Nat):∀ (l:List Keyed) (d:Nat) (arr:Array Keyed),sa+d+l.length<=arr.size->((l.zipIdx d).foldl (λ a q=>a.setIfInBounds (sa+q.2) q.1) arr).toList=arr.toList.take (sa+d)++(l++arr.toList.drop (sa+d+l.length))
 | [],d,arr,_=>by simp
 | x :: l,d,arr,h=>by
  rw [List.length_cons] at h
  rw [List.zipIdx_cons,List.foldl_cons,Va sa l (d+1) _ (by rw [Array.size_setIfInBounds];omega)]
  dsimp only
  rw [Array.toList_setIfInBounds,List.drop_set_of_lt (by omega),show sa+(d+1)=sa+d+1 by omega,List.take_succ_eq_append_getElem (by simp;omega)]
  simp only [List.getElem_set_self,List.length_cons,List.append_assoc,List.cons_append,List.nil_append]
  rw [List.take_set_of_le (Nat.le_refl _),show sa+d+1+l.length=sa+d+(l.length+1) by omega]
section
variable {lt:Keyed->Keyed->Bool}{arr:Array Keyed}
theorem Kc (arr:Array Keyed) (i j:Nat):(arr.extract i j).toList=(arr.toList.drop i).take (j-i):=by
 rw [Array.toList_extract,List.extract_eq_take_drop]
theorem ext_get {arr:Array Keyed}{i j n:Nat}(h:n<j-i):(arr.extract i j)[n]?=arr[i+n]?:=by
 rw [<-Array.getElem?_toList,Kc,List.getElem?_take_of_lt h,List.getElem?_drop,Array.getElem?_toList]
theorem Bk {arr:Array Keyed}{i j:Nat}{z:Keyed}(h:z∈(arr.extract i j).toList):∃ n,i<=n/\n<j/\arr[n]?=some z:=by
 rw [Kc] at h
 obtain⟨n,hn,rfl⟩:=List.getElem_of_mem h
 rw [List.length_take,List.length_drop,Array.length_toList] at hn
 refine⟨i+n,by omega,by omega,?_⟩
 rw [Array.getElem?_eq_getElem (by omega),List.getElem_take,List.getElem_drop]
 simp
theorem Gq {arr:Array Keyed}{i:Nat}{z:Keyed}(h:z∈arr.toList.drop i):∃ n,i<=n/\n<arr.size/\arr[n]?=some z:=by
 rw [<-G5] at h
 exact Bk h
theorem Io {arr:Array Keyed}{i:Nat}{z:Keyed}(h:z∈arr.toList.take i):∃ n,n<i/\arr[n]?=some z:=by
 rw [<-G7] at h
 obtain⟨n,_,h1,h2⟩:=Bk h
 exact⟨n,h1,h2⟩
end
section
variable {prog:Program}{w:World}{A:Around}{E:Value->Shared->Prop}{s:Shared}{lt:Keyed->Keyed->Bool}{κ:SortKind}{S:Keyed->Prop}
theorem Afh {Q:PUnit->SortSt->Prop}{st st':SortSt}(h:Q ⟨⟩ st'):wpS (model prog w) A E s (set st':StateT SortSt Sem PUnit) Q st:=by
 unfold wpS;rw [StateT.run_set];exact wpAny_pure ⟨rfl,h⟩
theorem Ab1 {x y z:Nat × Nat × Nat}:((#[x,y].setIfInBounds 0 z).eraseIdxIfInBounds (0+1)).size=1:=by simp [Array.eraseIdxIfInBounds]
theorem Vw {arr:Array Keyed}{n1 n2 p1 p2 gl:Nat}{Q:Bool->SortSt->Prop}(L:LtK lt) (h:Rw prog w A s κ lt S)
  (hS:∀ x∈arr.toList,S x) (h1:0<n1) (h2:0<n2) (hn:n1+n2=arr.size) (s1:Em lt (arr.toList.take n1)) (s2:Em lt (arr.toList.drop n1))
  (q:∀ st',(arrOf st').toList.Perm arr.toList->Em lt (arrOf st').toList->failedOf st'=none->(pendingOf st').size=1->Q true st'):wpS (model prog w) A E s (mergeAt' 0) Q (SortSt.mk' κ arr #[(0,n1,p1),(n1,n2,p2)] gl none):=by
 have g:∀ i,i<arr.size->∃ x,arr[i]?=some x/\S x:=λ i hi=>⟨arr[i],Array.getElem?_eq_getElem hi,hS _ (by simp)⟩
 have le1:∀ {i j:Nat} {x y:Keyed},i<=j->j<n1->arr[i]?=some x->arr[j]?=some y->lt y x=false:=λ {i j x y} hij hj ex ey=>by
  have:=Np L (arr:=arr.extract 0 n1) (by rw [G7];exact s1) (i:=i) (j:=j) (x:=x) (y:=y) hij
  refine this ?_ ?_
  ·rw [ext_get (by omega),Nat.zero_add];exact ex
  ·rw [ext_get (by omega),Nat.zero_add];exact ey
 have le2:∀ {i j:Nat} {x y:Keyed},n1<=i->i<=j->arr[i]?=some x->arr[j]?=some y->lt y x=false:=λ {i j x y} hi hij ex ey=>by
  have:=Np L (arr:=arr.extract n1 arr.size) (by rw [G5];exact s2) (i:=i-n1) (j:=j-n1) (x:=x) (y:=y) (by omega)
  obtain⟨bi,_⟩:=Array.getElem?_eq_some_iff.mp ex
  obtain⟨bj,_⟩:=Array.getElem?_eq_some_iff.mp ey
  refine this ?_ ?_
  ·rw [ext_get (by omega),show n1+(i-n1)=i by omega];exact ex
  ·rw [ext_get (by omega),show n1+(j-n1)=j by omega];exact ey
 have all:(arr.toList.take n1++arr.toList.drop n1)=arr.toList:=List.take_append_drop _ _
 have ok:∀ {x y:Keyed},(∀ x∈arr.toList.take n1,∀ y∈arr.toList.drop n1,lt y x=false)->Em lt arr.toList:=λ hh=>by
  rw [<-all];exact List.pairwise_append.mpr ⟨s1,s2,hh⟩
 refine wpS_bind (wpS_get ?_)
 refine wpS_bind (Afh ?_)
 obtain⟨b0,eb0,sb0⟩:=g n1 (by omega)
 obtain⟨al,eal,sal⟩:=g (n1-1) (by omega)
 refine wpS_bind (Bc eb0 (wpS_bind ?_))
 refine Ft (B:=λ i=>!lt b0 (arr[i]?.getD default)) h rfl sb0 h1 (λ i hi=>?_) (λ i i' hii hi' hB=>?_) λ k hk1 hk2 hk3=>?_
 ·obtain⟨x,ex,sx⟩:=g i (by omega)
  refine⟨x,by rw [Nat.zero_add];exact ex,sx,?_⟩
  simp only [ex];rfl
 ·obtain⟨x,ex,sx⟩:=g i (by omega)
  obtain⟨x',ex',sx'⟩:=g i' (by omega)
  simp only [ex,ex',Option.getD_some,Bool.not_eq_true'] at hB ⊢
  exact L.tr (le1 hii hi' ex ex') hB
 have lo1:∀ i x,i<k->arr[i]?=some x->lt b0 x=false:=λ i x hi ex=>by
  have:=hk2 i hi
  simpa only [ex,Option.getD_some,Bool.not_eq_true'] using this
 have hi1:∀ i x,k<=i->i<n1->arr[i]?=some x->lt b0 x=true:=λ i x hi hi' ex=>by
  have:=hk3 i hi hi'
  simpa only [ex,Option.getD_some,Bool.not_eq_false'] using this
 dsimp only
 by_cases c1:(n1-k == 0)=true
 ·rw [if_pos c1]
  have c1':n1-k=0:=by simpa using c1
  refine wpS_pure (q _ (List.Perm.refl _) (ok (x:=b0) (y:=b0) λ x hx y hy=>?_) rfl Ab1)
  obtain⟨i,hi,ex⟩:=Io hx
  obtain⟨j,hj,_,ey⟩:=Gq hy
  exact L.tr (lo1 i x (by omega) ex) (le2 (Nat.le_refl _) hj eb0 ey)
 rw [if_neg c1]
 have c1':¬ n1-k=0:=by simpa using c1
 refine wpS_bind (Bc (x:=al) (by rw [show 0+k+(n1-k)-1=n1-1 by omega];exact eal) (wpS_bind ?_))
 refine Ft (B:=λ i=>lt (arr[n1+i]?.getD default) al) h rfl sal (by omega) (λ i hi=>?_) (λ i i' hii hi' hB=>?_) λ nb hb1 hb2 hb3=>?_
 ·obtain⟨x,ex,sx⟩:=g (n1+i) (by omega)
  refine⟨x,ex,sx,?_⟩
  simp only [ex];rfl
 ·obtain⟨x,ex,sx⟩:=g (n1+i) (by omega)
  obtain⟨x',ex',sx'⟩:=g (n1+i') (by omega)
  simp only [ex,ex',Option.getD_some] at hB ⊢
  cases hx:lt x al with
  | true=>rfl
  | false=>rw [L.tr hx (le2 (by omega) (by omega) ex ex')] at hB;cases hB
 have lo2:∀ j y,n1<=j->j<n1+nb->arr[j]?=some y->lt y al=true:=λ j y hj hj' ey=>by
  have:=hb2 (j-n1) (by omega)
  simpa only [show n1+(j-n1)=j by omega,ey,Option.getD_some] using this
 have hi2:∀ j y,n1+nb<=j->arr[j]?=some y->lt y al=false:=λ j y hj ey=>by
  obtain⟨bj,_⟩:=Array.getElem?_eq_some_iff.mp ey
  have:=hb3 (j-n1) (by omega) (by omega)
  simpa only [show n1+(j-n1)=j by omega,ey,Option.getD_some] using this
 dsimp only
 by_cases c2:(nb == 0)=true
 ·rw [if_pos c2]
  have c2':nb=0:=by simpa using c2
  refine wpS_pure (q _ (List.Perm.refl _) (ok (x:=b0) (y:=b0) λ x hx y hy=>?_) rfl Ab1)
  obtain⟨i,hi,ex⟩:=Io hx
  obtain⟨j,hj,_,ey⟩:=Gq hy
  exact L.tr (le1 (by omega) (by omega) ex eal) (hi2 j y (by omega) ey)
 rw [if_neg c2]
 have c2':¬ nb=0:=by simpa using c2
 -- the two parts
 simp only [Nat.zero_add]
 have zX:(arr.extract k n1).size=n1-k:=by rw [Array.size_extract];omega
 have zY:(arr.extract n1 (n1+nb)).size=nb:=by rw [Array.size_extract];omega
 have eT:arr.toList.take n1=arr.toList.take k++(arr.extract k n1).toList:=by
  rw [Kc,<-List.take_add];congr 1;omega
 have eD:arr.toList.drop n1=(arr.extract n1 (n1+nb)).toList++arr.toList.drop (n1+nb):=by
  rw [Kc,show n1+nb-n1=nb by omega,<-List.drop_drop,List.take_append_drop]
 have sX:Em lt (arr.extract k n1).toList:=by rw [eT] at s1;exact (List.pairwise_append.mp s1).2.1
 have sY:Em lt (arr.extract n1 (n1+nb)).toList:=by rw [eD] at s2;exact (List.pairwise_append.mp s2).1
 have FX:∀ z∈(arr.extract k n1).toList,lt b0 z=true:=λ z hz=>by
  obtain⟨i,q1,q2,e⟩:=Bk hz
  exact hi1 i z q1 q2 e
 have FY:∀ z∈(arr.extract n1 (n1+nb)).toList,lt z al=true:=λ z hz=>by
  obtain⟨i,q1,q2,e⟩:=Bk hz
  exact lo2 i z q1 q2 e
 have X:MCx prog w A s κ lt S (arr.extract k n1) (arr.extract n1 (n1+nb)):=⟨L,h,λ i hi=>by
   rw [zX] at hi
   rw [ext_get (by omega)];exact g _ (by omega),λ i hi=>by
   rw [zY] at hi
   rw [ext_get (by omega)];exact g _ (by omega),sX,sY⟩
 have last:∀ x,x∈(arr.extract k n1).toList.drop ((arr.extract k n1).size-1)->x=al:=λ x hx=>by
  obtain⟨n,hn1,hn2,ex⟩:=Gq hx
  rw [zX] at hn1 hn2
  rw [ext_get (by omega),show k+n=n1-1 by omega,eal] at ex
  cases ex;rfl
 have first:∀ x,x∈(arr.extract n1 (n1+nb)).toList.take 1->x=b0:=λ x hx=>by
  obtain⟨n,hn1,ex⟩:=Io hx
  rw [ext_get (by omega),show n1+n=n1 by omega,eb0] at ex
  cases ex;rfl
 -- behind the merge
 have behind:∀ (m:Array Keyed),Oi lt (arr.extract k n1) (arr.extract n1 (n1+nb)) m->∀ st':SortSt,arrOf st'=(m.toList.zipIdx.foldl (λ a q=>a.setIfInBounds (k+q.2) q.1) arr)->failedOf st'=none->(pendingOf st').size=1->Q true st':=by
  intro m hm st' e1 e2 e3
  have ml:m.toList.length=n1-k+nb:=by
   rw [hm.2.length_eq,List.length_append,Array.length_toList,Array.length_toList,zX,zY]
  have e:(arrOf st').toList=arr.toList.take k++(m.toList++arr.toList.drop (n1+nb)):=by
   rw [e1]
   have:=Va k m.toList 0 arr (by omega)
   rw [this]
   rw [show k+0=k from rfl,show k+m.toList.length=n1+nb by omega]
  refine q st' ?_ ?_ e2 e3
  ·have e2:arr.toList.take k++(((arr.extract k n1).toList++(arr.extract n1 (n1+nb)).toList)++arr.toList.drop (n1+nb))=arr.toList:=by
    rw [List.append_assoc,<-eD,<-List.append_assoc,<-eT];exact all
   rw [e]
   exact (List.Perm.append_left _ (hm.2.append_right _)).trans (List.Perm.of_eq e2)
  ·have mem:∀ z∈m.toList,(∃ i,k<=i/\i<n1/\arr[i]?=some z)\/(∃ j,n1<=j/\j<n1+nb/\arr[j]?=some z):=λ z hz=>by
    rcases List.mem_append.mp (hm.2.mem_iff.mp hz) with hz|hz
    ·exact .inl (Bk hz)
    ·exact .inr (Bk hz)
   rw [e]
   refine List.pairwise_append.mpr ⟨?_,List.pairwise_append.mpr ⟨hm.1,?_,λ x hx y hy=>?_⟩,λ x hx y hy=>?_⟩
   ·rw [eT] at s1;exact (List.pairwise_append.mp s1).1
   ·rw [eD] at s2;exact (List.pairwise_append.mp s2).2.1
   ·obtain⟨j,q1,q2,ey⟩:=Gq hy
    rcases mem x hx with ⟨i,a1,a2,ex⟩|⟨i,a1,a2,ex⟩
    ·exact L.tr (le1 (by omega) (by omega) ex eal) (hi2 j y q1 ey)
    ·exact le2 a1 (by omega) ex ey
   ·obtain⟨i,a1,ex⟩:=Io hx
    have lb:∀ j,n1<=j->arr[j]?=some y->lt y x=false:=λ j hj ey=>L.tr (lo1 i x a1 ex) (le2 (Nat.le_refl _) hj eb0 ey)
    rcases List.mem_append.mp hy with hy|hy
    ·rcases mem y hy with ⟨j,b1,b2,ey⟩|⟨j,b1,b2,ey⟩
     ·exact le1 (by omega) b2 ex ey
     ·exact lb j b1 ey
    ·obtain⟨j,q1,q2,ey⟩:=Gq hy
     exact lb j (by omega) ey
 by_cases c3:n1-k<=nb
 ·rw [if_pos c3]
  refine wpS_bind (V5 L h rfl (λ x hx=>by obtain⟨i,q1,q2,e⟩:=Bk hx;exact hS x (by simpa using Array.mem_of_getElem? e)) (λ x hx=>by obtain⟨i,q1,q2,e⟩:=Bk hx;exact hS x (by simpa using Array.mem_of_getElem? e)) sX sY (by omega) (by omega) (λ x y ex ey=>?_) (λ x hx y hy=>?_) λ gl m hm=>?_)
  ·have:y=b0:=by
    rw [ext_get (by omega),show n1+0=n1 by omega,eb0] at ey
    cases ey;rfl
   subst this
   exact FX x (Array.mem_toList_iff.mpr (Array.mem_of_getElem? ex))
  ·rw [last x hx];exact L.as (FY y hy)
  ·exact wpS_bind (wpS_modify (wpS_bind (wpS_get (wpS_pure (behind m hm _ rfl rfl Ab1)))))
 ·rw [if_neg c3]
  refine wpS_bind (V1 X rfl (by omega) (by omega) (λ x hx y hy=>?_) (λ x y ex hy=>?_) λ gl m hm=>?_)
  ·rw [first x hx];exact L.as (FX y hy)
  ·have:x=al:=by
    rw [zX,ext_get (by omega),show k+(n1-k-1)=n1-1 by omega,eal] at ex
    cases ex;rfl
   rw [this];exact L.as (FY y hy)
  ·exact wpS_bind (wpS_modify (wpS_bind (wpS_get (wpS_pure (behind m hm _ rfl rfl Ab1)))))
end
noncomputable def vat (arr:Array Keyed) (i:Nat):Keyed:=arr[i]?.getD default
noncomputable def Up (lt:Keyed->Keyed->Bool) (arr:Array Keyed) (i j:Nat):Prop:=∀ p q,i<=p->p<=q->q<j->lt (vat arr q) (vat arr p)=false
noncomputable def Dn (lt:Keyed->Keyed->Bool) (arr:Array Keyed) (i j:Nat):Prop:=∀ p q,i<=p->p<=q->q<j->lt (vat arr p) (vat arr q)=false
noncomputable def Evn (lt:Keyed->Keyed->Bool) (arr:Array Keyed) (i j:Nat):Prop:=∀ p q,i<=p->p<j->i<=q->q<j->lt (vat arr p) (vat arr q)=false
structure Chg (lo:Nat) (arr arr':Array Keyed):Prop where
 prm:arr'.Perm arr
 low:∀ k,k<lo->arr'[k]?=arr[k]?
theorem Chg.rfl {lo:Nat}{arr:Array Keyed}:Chg lo arr arr:=⟨Array.Perm.refl _,λ _ _=>Eq.refl _⟩
theorem Chg.trans {lo:Nat}{a b c:Array Keyed}(x:Chg lo a b) (y:Chg lo b c):Chg lo a c:=⟨y.prm.trans x.prm,λ k h=>(y.low k h).trans (x.low k h)⟩
theorem Chg.size {lo:Nat}{a b:Array Keyed}(x:Chg lo a b):b.size=a.size:=x.prm.size_eq
theorem Chg.mem {lo:Nat}{a b:Array Keyed}(x:Chg lo a b) {S:Keyed->Prop}(h:∀ z∈a.toList,S z):∀ z∈b.toList,S z:=λ z hz=>h z ((Array.perm_iff_toList_perm.mp x.prm).mem_iff.mp hz)
noncomputable abbrev mir (arr:Array Keyed) (i j:Nat):Array Keyed:=mirror arr i j ((j-i) / 2)
theorem Ov {lo i j:Nat}{arr:Array Keyed}(hj:j<=arr.size) (hi:lo<=i):Chg lo arr (mir arr i j):=⟨mirror_perm _ _ _ _,λ k hk=>by rw [getElem?_mirror_all hj,if_neg (by omega)]⟩
theorem Gn {i j:Nat}{arr:Array Keyed}(hj:j<=arr.size) (k:Nat):vat (mir arr i j) k=if i<=k/\k<j then vat arr (i+j-1-k) else vat arr k:=by
 unfold vat
 rw [getElem?_mirror_all hj]
 split<;>rfl
theorem Aei {lo src d:Nat}{arr:Array Keyed}(hs:src<arr.size) (hd:lo+d<=src):Chg lo arr (bubble arr src d):=⟨bubble_perm _ _ _,λ k hk=>by rw [getElem?_bubble hs d (by omega),if_neg (by omega),if_neg (by omega)]⟩
theorem Zi {src d:Nat}{arr:Array Keyed}(hs:src<arr.size) (hd:d<=src) (k:Nat):vat (bubble arr src d) k=if k=src-d then vat arr src else if src-d<k/\k<=src then vat arr (k-1) else vat arr k:=by
 unfold vat
 rw [getElem?_bubble hs d hd]
 split
 ·rfl
 ·split<;>rfl
section
variable {lt:Keyed->Keyed->Bool}{arr:Array Keyed}{i j:Nat}
theorem Up.one (L:LtK lt):Up lt arr i (i+1):=λ p q h1 h2 h3=>by
 obtain rfl:p=q:=by omega
 exact L.irr _
theorem Up.more (L:LtK lt) (h:Up lt arr i j) (hij:i<j) (e:lt (vat arr j) (vat arr (j-1))=false):Up lt arr i (j+1):=λ p q h1 h2 h3=>by
 by_cases hq:q<j
 ·exact h p q h1 h2 hq
 ·obtain rfl:q=j:=by omega
  by_cases hp:p=q
  ·subst hp;exact L.irr _
  ·exact L.tr (h p (q-1) h1 (by omega) (by omega)) e
theorem Dn.more (L:LtK lt) (h:Dn lt arr i j) (hij:i<j) (e:lt (vat arr (j-1)) (vat arr j)=false):Dn lt arr i (j+1):=λ p q h1 h2 h3=>by
 by_cases hq:q<j
 ·exact h p q h1 h2 hq
 ·obtain rfl:q=j:=by omega
  by_cases hp:p=q
  ·subst hp;exact L.irr _
  ·exact L.tr e (h p (q-1) h1 (by omega) (by omega))
theorem Up.mir (h:Dn lt arr i j) (hj:j<=arr.size):Up lt (mir arr i j) i j:=λ p q h1 h2 h3=>by
 rw [Gn hj,Gn hj,if_pos (by omega),if_pos (by omega)]
 exact h _ _ (by omega) (by omega) (by omega)
theorem Dn.even {m n:Nat}(L:LtK lt) (h:Dn lt arr i j) (hm:i<=m) (hn:n<=j) (hj:j<=arr.size) (e:Evn lt arr m n):Dn lt (mir arr m n) i j:=λ p q h1 h2 h3=>by
 rw [Gn (by omega),Gn (by omega)]
 by_cases cp:m<=p/\p<n
 ·rw [if_pos cp]
  by_cases cq:m<=q/\q<n
  ·rw [if_pos cq];exact e _ _ (by omega) (by omega) (by omega) (by omega)
  ·rw [if_neg cq];exact h _ _ (by omega) (by omega) h3
 ·rw [if_neg cp]
  by_cases cq:m<=q/\q<n
  ·rw [if_pos cq];exact h _ _ h1 (by omega) (by omega)
  ·rw [if_neg cq];exact h _ _ h1 h2 h3
end
section
variable {prog:Program}{w:World}{A:Around}{E:Value->Shared->Prop}{s:Shared}{lt:Keyed->Keyed->Bool}{κ:SortKind}{S:Keyed->Prop}{arr:Array Keyed}{pe:Array (Nat × Nat × Nat)}{gl:Nat}
theorem Acj (hS:∀ x∈arr.toList,S x) {i:Nat}(h:i<arr.size):arr[i]?=some (vat arr i)/\S (vat arr i):=by
 have e:arr[i]?=some arr[i]:=Array.getElem?_eq_getElem h
 have v:vat arr i=arr[i]:=by unfold vat;rw [e];rfl
 rw [v]
 exact⟨e,hS _ (by simp)⟩
theorem Ke {i j:Nat}{Q:Option Bool->SortSt->Prop}(h:Rw prog w A s κ lt S) (hS:∀ x∈arr.toList,S x) (hi:i<arr.size) (hj:j<arr.size) (q:Q (some (lt (vat arr i) (vat arr j))) (SortSt.mk' κ arr pe gl none)) :
  wpS (model prog w) A E s (ltAt' i j) Q (SortSt.mk' κ arr pe gl none):=by
 rw [ltAt'_eq]
 refine wpS_bind (wpS_get ?_)
 exact wpS_bind (Bc (Acj hS hi).1 (wpS_bind (Bc (Acj hS hj).1 (Q6 h rfl (Acj hS hi).2 (Acj hS hj).2 q))))
theorem Vb {i j:Nat}{Q:Unit->SortSt->Prop}(q:Q () (SortSt.mk' κ (mir arr i j) pe gl none)):wpS (model prog w) A E s (reverseSlice' i j) Q (SortSt.mk' κ arr pe gl none):=by
 rw [reverseSlice'_eq];exact wpS_modify q
noncomputable def upB (lo:Nat) (_:Nat) (z:Option (Option Nat) × Nat):StateT SortSt Sem (ForInStep (Option (Option Nat) × Nat)) :=
 ltAt' (lo+z.2) (lo+z.2-1) >>= λ t=>match t with
  | some c=>if c=true then pure (.done (none,z.2)) else pure (.yield (none,z.2+1))
  | _=>pure (.done (some none,z.2))
theorem Ai0 {lo n nrem:Nat}{Q:Option (Option Nat) × Nat->SortSt->Prop}(L:LtK lt) (h:Rw prog w A s κ lt S) (hS:∀ x∈arr.toList,S x) (hz:lo+nrem<=arr.size) (h1:1<=n) (h2:n<=nrem) (u:Up lt arr lo (lo+n))
  (q:∀ m,n<=m->m<=nrem->Up lt arr lo (lo+m)->(m=nrem\/lt (vat arr (lo+m)) (vat arr (lo+m-1))=true)->Q (none,m) (SortSt.mk' κ arr pe gl none)) :
  wpS (model prog w) A E s (forIn [n:nrem] ((none,n):Option (Option Nat) × Nat) (upB lo)) Q (SortSt.mk' κ arr pe gl none):=by
 refine wpS_forRange (I:=λ x c st'=>st'=SortSt.mk' κ arr pe gl none/\c=(none,x)/\Up lt arr lo (lo+x)) ?_ ?_ ⟨rfl,rfl,u⟩
 ·rintro x c st' hx1 hx2 ⟨rfl,rfl,u'⟩
  unfold upB
  refine wpS_bind (Ke h hS (by dsimp only;omega) (by dsimp only;omega) ?_)
  dsimp only
  cases e:lt (vat arr (lo+x)) (vat arr (lo+x-1)) with
  | true=>exact wpS_pure (q x hx1 (by omega) u' (.inr e))
  | false=>exact wpS_pure ⟨rfl,rfl,Up.more (j:=lo+x) L u' (by omega) e⟩
 ·rintro c st' ⟨rfl,rfl,u'⟩
  rw [show max n nrem=nrem by omega] at u' ⊢
  exact q nrem h2 (Nat.le_refl _) u' (.inl rfl)
noncomputable def Ac7 (lo n nrem:Nat):StateT SortSt Sem (Option Nat) :=
 reverseSlice' lo (lo+n) >>= λ _=>forIn [n:nrem] ((none,n):Option (Option Nat) × Nat) (upB lo) >>= λ z=>match z.1 with
  | some r=>pure r
  | none=>pure (some z.2)
structure CntQ (lt:Keyed->Keyed->Bool) (κ:SortKind) (pe:Array (Nat × Nat × Nat)) (gl lo nrem:Nat) (arr:Array Keyed) (Q:Option Nat->SortSt->Prop):Prop where
 q:∀ m arr',1<=m->m<=nrem->Chg lo arr arr'->Up lt arr' lo (lo+m)->Q (some m) (SortSt.mk' κ arr' pe gl none)
theorem CntQ.chg {lo nrem:Nat}{arr':Array Keyed}{Q:Option Nat->SortSt->Prop}(x:CntQ lt κ pe gl lo nrem arr Q) (c:Chg lo arr arr'):CntQ lt κ pe gl lo nrem arr' Q:=⟨λ m a h1 h2 c' u=>x.q m a h1 h2 (c.trans c') u⟩
theorem Yk {lo n nrem:Nat}{Q:Option Nat->SortSt->Prop}(L:LtK lt) (h:Rw prog w A s κ lt S) (hS:∀ x∈arr.toList,S x) (hz:lo+nrem<=arr.size) (h1:1<=n) (h2:n<=nrem) (d:Dn lt arr lo (lo+n)) (q:CntQ lt κ pe gl lo nrem arr Q) :
  wpS (model prog w) A E s (Ac7 lo n nrem) Q (SortSt.mk' κ arr pe gl none):=by
 unfold Ac7
 have c:Chg lo arr (mir arr lo (lo+n)):=Ov (by omega) (Nat.le_refl _)
 refine wpS_bind (Vb (wpS_bind (Ai0 L h (c.mem hS) (by rw [c.size];exact hz) h1 h2 (Up.mir d (by omega)) λ m hm1 hm2 u _=>?_)))
 exact wpS_pure (q.q m _ (by omega) hm2 c u)
noncomputable def dnB (lo:Nat) (_:Nat) (z:Option (Option Nat) × Nat × Nat):StateT SortSt Sem (ForInStep (Option (Option Nat) × Nat × Nat)) :=
 ltAt' (lo+z.2.1) (lo+z.2.1-1) >>= λ t=>match t with
  | some c=>if c=true then (if z.2.2 > 0 then reverseSlice' (lo+z.2.1-(z.2.2+1)) (lo+z.2.1) >>= λ _=>pure (.yield (none,z.2.1+1,0)) else pure (.yield (none,z.2.1+1,0)))
   else ltAt' (lo+z.2.1-1) (lo+z.2.1) >>= λ t'=>match t' with
    | some c'=>if c'=true then pure (.done (none,z.2.1,z.2.2)) else pure (.yield (none,z.2.1+1,z.2.2+1))
    | _=>pure (.done (some none,z.2.1,z.2.2))
  | _=>pure (.done (some none,z.2.1,z.2.2))
noncomputable def Ag1 (lo n nrem:Nat):StateT SortSt Sem (Option Nat) :=
 liftM (rule "list.sort.descending-run") >>= λ _=>forIn [n+1:nrem] ((none,n+1,0):Option (Option Nat) × Nat × Nat) (dnB lo) >>= λ z=>match z.1 with
  | some r=>pure r
  | none=>if z.2.2 > 0 then reverseSlice' (lo+z.2.1-(z.2.2+1)) (lo+z.2.1) >>= λ _=>Ac7 lo z.2.1 nrem else Ac7 lo z.2.1 nrem
theorem Z0 {lo n nrem:Nat}{Q:Option Nat->SortSt->Prop}(L:LtK lt) (h:Rw prog w A s κ lt S) (hS:∀ x∈arr.toList,S x) (hz:lo+nrem<=arr.size) (h2:n+1<=nrem) (d:Dn lt arr lo (lo+(n+1))) (q:CntQ lt κ pe gl lo nrem arr Q) :
  wpS (model prog w) A E s (Ag1 lo n nrem) Q (SortSt.mk' κ arr pe gl none):=by
 unfold Ag1
 refine wpS_bind (wpS_lift (wpAny_rule ⟨rfl,?_⟩))
 refine wpS_bind (wpS_mono (wpS_forRange (I:=λ x c st'=>∃ arr' e,st'=SortSt.mk' κ arr' pe gl none/\c=(none,x,e)/\Chg lo arr arr'/\Dn lt arr' lo (lo+x)/\e+1<=x/\Evn lt arr' (lo+x-(e+1)) (lo+x))
  (Q:=λ c st'=>∃ arr' x e,x<=nrem/\n+1<=x/\st'=SortSt.mk' κ arr' pe gl none/\c=(none,x,e)/\Chg lo arr arr'/\Dn lt arr' lo (lo+x)/\e+1<=x/\Evn lt arr' (lo+x-(e+1)) (lo+x)) ?_ ?_
   ⟨arr,0,rfl,rfl,Chg.rfl,d,by omega,λ p q a1 a2 a3 a4=>by obtain rfl:p=q:=(by omega);exact L.irr _⟩) ?_)
 ·rintro x c st' hx1 hx2 ⟨ar,e,rfl,rfl,c,d,he,ev⟩
  have hz':lo+nrem<=ar.size:=by rw [c.size];exact hz
  have hS':=c.mem hS
  unfold dnB
  refine wpS_bind (Ke h hS' (by dsimp only;omega) (by dsimp only;omega) ?_)
  dsimp only
  have one:∀ (ar':Array Keyed),Evn lt ar' (lo+(x+1)-(0+1)) (lo+(x+1)):=λ ar' p q a1 a2 a3 a4=>by obtain rfl:p=q:=(by omega);exact L.irr _
  cases e1:lt (vat ar (lo+x)) (vat ar (lo+x-1)) with
  | true =>
   rw [if_pos rfl]
   by_cases hq:e > 0
   ·rw [if_pos hq]
    have c':Chg lo ar (mir ar (lo+x-(e+1)) (lo+x)):=Ov (by omega) (by omega)
    refine wpS_bind (Vb (wpS_pure ⟨_,0,rfl,rfl,c.trans c',?_,by omega,one _⟩))
    refine Dn.more (j:=lo+x) L (d.even L (by omega) (Nat.le_refl _) (by omega) ev) (by omega) ?_
    rw [Gn (by omega),Gn (by omega),if_pos (by omega),if_neg (by omega)]
    exact L.tr (L.as e1) (ev _ _ (by omega) (by omega) (by omega) (by omega))
   ·rw [if_neg hq]
    exact wpS_pure ⟨_,0,rfl,rfl,c,Dn.more (j:=lo+x) L d (by omega) (L.as e1),by omega,one _⟩
  | false =>
   rw [if_neg (by simp)]
   refine wpS_bind (Ke h hS' (by omega) (by omega) ?_)
   cases e2:lt (vat ar (lo+x-1)) (vat ar (lo+x)) with
   | true=>exact wpS_pure ⟨_,_,_,by omega,hx1,rfl,rfl,c,d,he,ev⟩
   | false =>
    refine wpS_pure ⟨_,e+1,rfl,rfl,c,Dn.more (j:=lo+x) L d (by omega) e2,by omega,?_⟩
    -- x is even with the one before
    have toL:∀ p,lo+(x+1)-(e+1+1)<=p->p<lo+x->lt (vat ar p) (vat ar (lo+x))=false/\lt (vat ar (lo+x)) (vat ar p)=false:=λ p a1 a2 =>
     ⟨L.tr e2 (ev p (lo+x-1) (by omega) a2 (by omega) (by omega)),L.tr (ev (lo+x-1) p (by omega) (by omega) (by omega) a2) e1⟩
    intro p q a1 a2 a3 a4
    by_cases hp:p<lo+x
    ·by_cases hq:q<lo+x
     ·exact ev p q (by omega) hp (by omega) hq
     ·obtain rfl:q=lo+x:=by omega
      exact (toL p a1 hp).1
    ·obtain rfl:p=lo+x:=by omega
     by_cases hq:q<lo+x
     ·exact (toL q a3 hq).2
     ·obtain rfl:q=lo+x:=by omega
      exact L.irr _
 ·rintro c st' ⟨ar,e,rfl,rfl,c,d,he,ev⟩
  rw [show max (n+1) nrem=nrem by omega] at *
  exact⟨_,_,_,Nat.le_refl _,h2,rfl,rfl,c,d,he,ev⟩
 ·rintro c st' ⟨ar,x,e,hx,hx1,rfl,rfl,c,d,he,ev⟩
  have hz':lo+nrem<=ar.size:=by rw [c.size];exact hz
  have hS':=c.mem hS
  dsimp only
  by_cases hq:e > 0
  ·rw [if_pos hq]
   have c':Chg lo ar (mir ar (lo+x-(e+1)) (lo+x)):=Ov (by omega) (by omega)
   exact wpS_bind (Vb (Yk L h (c'.mem hS') (by rw [c'.size];exact hz') (by omega) hx (d.even L (by omega) (Nat.le_refl _) (by omega) ev) (q.chg (c.trans c'))))
  ·rw [if_neg hq]
   exact Yk L h hS' hz' (by omega) hx d (q.chg c)
theorem count_eq (lo nrem:Nat):countRun' lo nrem=(forIn [1:nrem] ((none,1):Option (Option Nat) × Nat) (upB lo) >>= λ z=>match z.1 with
  | some r=>pure r
  | none=>if (z.2 == nrem)=true then pure (some z.2) else if z.2 > 1 then ltAt' lo (lo+z.2-1) >>= λ t=>match t with
    | some c=>if c=true then pure (some z.2) else reverseSlice' lo (lo+z.2) >>= λ _=>Ag1 lo z.2 nrem
    | _=>pure none
   else Ag1 lo z.2 nrem):=by
 delta countRun'
 refine congrArg (Bind.bind _) (funext λ z=>?_)
 obtain⟨r,n⟩:=z
 cases r with
 | some r=>rfl
 | none =>
  dsimp only
  refine ite_congr rfl (λ _=>rfl) λ _=>?_
  refine ite_congr rfl (λ _=>?_) λ _=>?_
  ·refine congrArg (Bind.bind _) (funext λ t=>?_)
   cases t with
   | none=>rfl
   | some c =>
    dsimp only
    refine ite_congr rfl (λ _=>rfl) λ _=>?_
    refine congrArg (Bind.bind _) (funext λ _=>?_)
    unfold Ag1
    refine congrArg (Bind.bind _) (funext λ _=>?_)
    refine congrArg (Bind.bind _) (funext λ z=>?_)
    obtain⟨r,n,e⟩:=z
    cases r with
    | some r=>rfl
    | none =>
     dsimp only
     refine ite_congr rfl (λ _=>?_) λ _=>?_
     ·refine congrArg (Bind.bind _) (funext λ _=>?_)
      unfold Ac7
      refine congrArg (Bind.bind _) (funext λ _=>?_)
      refine congrArg (Bind.bind _) (funext λ z=>?_)
      obtain⟨r,n⟩:=z
      cases r<;>rfl
     ·unfold Ac7
      refine congrArg (Bind.bind _) (funext λ _=>?_)
      refine congrArg (Bind.bind _) (funext λ z=>?_)
      obtain⟨r,n⟩:=z
      cases r<;>rfl
  ·unfold Ag1
   refine congrArg (Bind.bind _) (funext λ _=>?_)
   refine congrArg (Bind.bind _) (funext λ z=>?_)
   obtain⟨r,n,e⟩:=z
   cases r with
   | some r=>rfl
   | none =>
    dsimp only
    refine ite_congr rfl (λ _=>?_) λ _=>?_
    ·refine congrArg (Bind.bind _) (funext λ _=>?_)
     unfold Ac7
     refine congrArg (Bind.bind _) (funext λ _=>?_)
     refine congrArg (Bind.bind _) (funext λ z=>?_)
     obtain⟨r,n⟩:=z
     cases r<;>rfl
    ·unfold Ac7
     refine congrArg (Bind.bind _) (funext λ _=>?_)
     refine congrArg (Bind.bind _) (funext λ z=>?_)
     obtain⟨r,n⟩:=z
     cases r<;>rfl
theorem Lz {lo nrem:Nat}{Q:Option Nat->SortSt->Prop}(L:LtK lt) (h:Rw prog w A s κ lt S) (hS:∀ x∈arr.toList,S x) (hz:lo+nrem<=arr.size) (h1:1<=nrem) (q:CntQ lt κ pe gl lo nrem arr Q) :
  wpS (model prog w) A E s (countRun' lo nrem) Q (SortSt.mk' κ arr pe gl none):=by
 rw [count_eq]
 refine wpS_bind (Ai0 L h hS hz (Nat.le_refl 1) h1 (Up.one L) λ n hn1 hn2 u hor=>?_)
 dsimp only
 by_cases e1:(n == nrem)=true
 ·rw [if_pos e1]
  exact wpS_pure (q.q n arr hn1 hn2 Chg.rfl u)
 rw [if_neg e1]
 have e1':¬ n=nrem:=by simpa using e1
 have hlt:=hor.resolve_left e1'
 by_cases e2:n > 1
 ·rw [if_pos e2]
  refine wpS_bind (Ke h hS (by omega) (by omega) ?_)
  cases e3:lt (vat arr lo) (vat arr (lo+n-1)) with
  | true=>exact wpS_pure (q.q n arr hn1 hn2 Chg.rfl u)
  | false =>
   have ev:Evn lt arr lo (lo+n):=λ p r a1 a2 a3 a4=>by
    -- all between the first and the last are even
    have b1:lt (vat arr p) (vat arr lo)=false:=u lo p (Nat.le_refl _) a1 a2
    have b2:lt (vat arr (lo+n-1)) (vat arr r)=false:=u r (lo+n-1) a3 (by omega) (by omega)
    have b3:lt (vat arr (lo+n-1)) (vat arr p)=false:=u p (lo+n-1) a1 (by omega) (by omega)
    have b4:lt (vat arr r) (vat arr lo)=false:=u lo r (Nat.le_refl _) a3 a4
    have b5:lt (vat arr lo) (vat arr r)=false:=L.tr b2 e3
    exact L.tr b5 b1
   have c:Chg lo arr (mir arr lo (lo+n)):=Ov (by omega) (Nat.le_refl _)
   refine wpS_bind (Vb ?_)
   refine Z0 (n:=n) L h (c.mem hS) (by rw [c.size];exact hz) (by omega) ?_ (q.chg c)
   have dn:Dn lt arr lo (lo+n):=λ p r a1 a2 a3=>ev p r a1 (by omega) (by omega) a3
   refine Dn.more (j:=lo+n) L (dn.even L (Nat.le_refl _) (Nat.le_refl _) (by omega) ev) (by omega) ?_
   rw [Gn (by omega),Gn (by omega),if_pos (by omega),if_neg (by omega)]
   exact L.tr (L.as hlt) (ev _ _ (by omega) (by omega) (by omega) (by omega))
 ·rw [if_neg e2]
  obtain rfl:n=1:=by omega
  refine Z0 (n:=1) L h hS hz (by omega) ?_ q
  exact Dn.more (j:=lo+1) L (λ p r a1 a2 a3=>by obtain rfl:p=r:=(by omega);exact L.irr _) (by omega) (L.as hlt)
end
section
variable {prog:Program}{w:World}{A:Around}{E:Value->Shared->Prop}{s:Shared}{lt:Keyed->Keyed->Bool}{κ:SortKind}{S:Keyed->Prop}{arr:Array Keyed}{pe:Array (Nat × Nat × Nat)}{gl:Nat}
theorem M6 {lo n ok:Nat}{Q:Bool->SortSt->Prop}(L:LtK lt) (h:Rw prog w A s κ lt S) (hS:∀ x∈arr.toList,S x) (hz:lo+n<=arr.size) (h2:ok<=n) (u:Up lt arr lo (lo+ok))
  (q:∀ arr',Chg lo arr arr'->Up lt arr' lo (lo+n)->Q true (SortSt.mk' κ arr' pe gl none)):wpS (model prog w) A E s (binarySort' lo n ok) Q (SortSt.mk' κ arr pe gl none):=by
 rw [binarySort'_eq]
 refine wpS_bind (wpS_mono (wpS_forRange (I:=λ k c st'=>∃ ar,c=(none,())/\st'=SortSt.mk' κ ar pe gl none/\Chg lo arr ar/\Up lt ar lo (lo+min k n))
  (Q:=λ c st'=>∃ ar,c=(none,())/\st'=SortSt.mk' κ ar pe gl none/\Chg lo arr ar/\Up lt ar lo (lo+n)) ?_ ?_ ⟨arr,rfl,rfl,Chg.rfl,λ i j a1 a2 a3=>?_⟩) ?_)
 ·rintro k c st' k1 k2 ⟨ar,rfl,rfl,c,u'⟩
  rw [show min k n=k by omega] at u'
  have hz':lo+n<=ar.size:=by rw [c.size];exact hz
  have hS':=c.mem hS
  refine wpS_bind (wpS_mono (wpS_forRange (I:=λ x c st''=>∃ l r,c=(none,l,r)/\st''=SortSt.mk' κ ar pe gl none/\l<=r/\r<=k/\r-l<=k-x ∧
    (∀ i,i<l->lt (vat ar (lo+k)) (vat ar (lo+i))=false)/\(∀ i,r<=i->i<k->lt (vat ar (lo+k)) (vat ar (lo+i))=true))
   (Q:=λ c st''=>∃ l r,c=(none,l,r)/\st''=SortSt.mk' κ ar pe gl none/\l<=k ∧
    (∀ i,i<l->lt (vat ar (lo+k)) (vat ar (lo+i))=false)/\(∀ i,l<=i->i<k->lt (vat ar (lo+k)) (vat ar (lo+i))=true)) ?_ ?_ ⟨0,k,rfl,rfl,by omega,by omega,by omega,λ i hi=>by omega,λ i a1 a2=>by omega⟩) ?_)
  ·rintro x c st'' _ hxk ⟨l,r,rfl,rfl,b1,b2,b3,b4,b5⟩
   dsimp only
   by_cases hge:l ≥ r
   ·rw [if_pos hge]
    obtain rfl:l=r:=by omega
    exact wpS_pure ⟨l,l,rfl,rfl,b2,b4,b5⟩
   ·rw [if_neg hge]
    refine wpS_bind (Ke h hS' (by omega) (by omega) ?_)
    cases e:lt (vat ar (lo+k)) (vat ar (lo+(l+r) / 2)) with
    | true =>
     refine wpS_pure ⟨_,_,rfl,rfl,by omega,by omega,by omega,b4,λ i a1 a2=>?_⟩
     cases e':lt (vat ar (lo+k)) (vat ar (lo+i)) with
     | true=>rfl
     | false=>rw [L.tr (u' (lo+(l+r) / 2) (lo+i) (by omega) (by omega) (by omega)) e'] at e;cases e
    | false=>exact wpS_pure ⟨_,_,rfl,rfl,by omega,by omega,by omega,λ i a1=>L.tr (u' (lo+i) (lo+(l+r) / 2) (by omega) (by omega) (by omega)) e,b5⟩
  ·rintro c st'' ⟨l,r,rfl,rfl,b1,b2,b3,b4,b5⟩
   obtain rfl:l=r:=by omega
   exact⟨l,l,rfl,rfl,b2,b4,b5⟩
  ·rintro c st'' ⟨l,r,rfl,rfl,b2,b4,b5⟩
   show wpS _ _ _ _ (moveDown' (lo+k) (lo+l) >>= λ _=>pure (ForInStep.yield (none,()))) _ _
   rw [moveDown'_eq]
   have c':Chg lo ar (bubble ar (lo+k) (lo+k-(lo+l))):=Aei (by omega) (by omega)
   refine wpS_bind (wpS_modify (wpS_pure ⟨_,rfl,rfl,c.trans c',?_⟩))
   rw [show min (k+1) n=k+1 by omega]
   show Up lt (bubble ar (lo+k) (lo+k-(lo+l))) lo (lo+(k+1))
   intro i j a1 a2 a3
   rw [Zi (by omega) (by omega),Zi (by omega) (by omega),show lo+k-(lo+k-(lo+l))=lo+l by omega]
   -- where the two lie
   have below:∀ i,lo<=i->i<lo+l->lt (vat ar (lo+k)) (vat ar i)=false:=λ i q1 q2=>by
    have:=b4 (i-lo) (by omega)
    rwa [show lo+(i-lo)=i by omega] at this
   have above:∀ i,lo+l<=i->i<lo+k->lt (vat ar i) (vat ar (lo+k))=false:=λ i q1 q2=>by
    have:=b5 (i-lo) (by omega) (by omega)
    rw [show lo+(i-lo)=i by omega] at this
    exact L.as this
   by_cases ci:i=lo+l
   ·rw [if_pos ci]
    by_cases cj:j=lo+l
    ·rw [if_pos cj];exact L.irr _
    ·rw [if_neg cj,if_pos (by omega)];exact above _ (by omega) (by omega)
   ·rw [if_neg ci]
    by_cases ci2:lo+l<i/\i<=lo+k
    ·rw [if_pos ci2,if_neg (by omega),if_pos (by omega)]
     exact u' _ _ (by omega) (by omega) (by omega)
    ·rw [if_neg ci2]
     by_cases cj:j=lo+l
     ·rw [if_pos cj];exact below _ a1 (by omega)
     ·rw [if_neg cj]
      by_cases cj2:lo+l<j/\j<=lo+k
      ·rw [if_pos cj2];exact u' _ _ a1 (by omega) (by omega)
      ·rw [if_neg cj2];exact u' _ _ a1 a2 (by omega)
 ·rintro c st' ⟨ar,rfl,rfl,c,u'⟩
  rw [show min (max (max ok 1) n) n=n by omega] at u'
  exact⟨ar,rfl,rfl,c,u'⟩
 ·by_cases h0:ok=0
  ·obtain rfl:i=j:=by omega
   exact L.irr _
  ·exact u i j a1 a2 (by omega)
 ·rintro c st' ⟨ar,rfl,rfl,c,u'⟩
  exact wpS_pure (q ar c u')
theorem Aef (h:Up lt arr 0 arr.size):Em lt arr.toList:=by
 refine List.pairwise_iff_getElem.mpr λ i j hi hj hij=>?_
 rw [Array.length_toList] at hi hj
 have:=h i j (Nat.zero_le _) (by omega) hj
 unfold vat at this
 rw [Array.getElem?_eq_getElem hi,Array.getElem?_eq_getElem hj] at this
 simpa using this
theorem Afr {n:Nat}(h:Up lt arr 0 n) (hn:n<=arr.size):Em lt (arr.toList.take n):=by
 refine List.pairwise_iff_getElem.mpr λ i j hi hj hij=>?_
 rw [List.length_take,Array.length_toList] at hi hj
 have:=h i j (Nat.zero_le _) (by omega) (by omega)
 unfold vat at this
 rw [Array.getElem?_eq_getElem (by omega),Array.getElem?_eq_getElem (by omega)] at this
 simpa using this
theorem Ae4 {n:Nat}(h:Up lt arr n arr.size):Em lt (arr.toList.drop n):=by
 refine List.pairwise_iff_getElem.mpr λ i j hi hj hij=>?_
 rw [List.length_drop,Array.length_toList] at hi hj
 have:=h (n+i) (n+j) (by omega) (by omega) (by omega)
 unfold vat at this
 rw [Array.getElem?_eq_getElem (by omega),Array.getElem?_eq_getElem (by omega)] at this
 simpa using this
theorem Xn {arr':Array Keyed}{n:Nat}(c:Chg n arr arr') (h:Up lt arr 0 n):Up lt arr' 0 n:=λ i j a1 a2 a3=>by
 unfold vat
 rw [c.low i (by omega),c.low j a3]
 exact h i j a1 a2 a3
theorem Af0:∀ N,N<67->2<=N->minRun' N N 0<=N/\N<=2 * minRun' N N 0:=by decide +kernel
theorem O4 {n N:Nat}{P:ForInStep (Option Unit × Nat)->SortSt->Prop}{g:Nat->Option Unit × Unit->StateT SortSt Sem (ForInStep (Option Unit × Unit))}
  (hg:∀ x,wpS (model prog w) A E s (g x (none,())) (λ r st'=>r=.done (none,())/\st'=SortSt.mk' κ arr #[(0,n,0)] gl none) (SortSt.mk' κ arr #[(0,n,0)] gl none)) {F:Option Unit × Unit->StateT SortSt Sem (ForInStep (Option Unit × Nat))}
  (hF:wpS (model prog w) A E s (F (none,())) P (SortSt.mk' κ arr #[(0,n,0)] gl none)):wpS (model prog w) A E s (forIn [0:N] (none,()) g >>= F) P (SortSt.mk' κ arr #[(0,n,0)] gl none):=by
 refine wpS_bind (wpS_mono (wpS_forRange (I:=λ x c st'=>c=(none,())/\st'=SortSt.mk' κ arr #[(0,n,0)] gl none) (Q:=λ c st'=>c=(none,())/\st'=SortSt.mk' κ arr #[(0,n,0)] gl none) ?_ (λ c st' hh=>hh) ⟨rfl,rfl⟩) ?_)
 ·rintro x c st' _ _ ⟨rfl,rfl⟩
  refine wpS_mono (hg x) ?_
  rintro r st' ⟨rfl,rfl⟩
  exact⟨rfl,rfl⟩
 ·rintro c st' ⟨rfl,rfl⟩
  exact hF
theorem Ad4 {Q:Unit->SortSt->Prop}(L:LtK lt) (h:Rw prog w A s κ lt S) (hS:∀ x∈arr.toList,S x) {N:Nat}(hz:arr.size=N) (hN:2<=N) (hN2:N<67)
  (q:∀ st',(arrOf st').toList.Perm arr.toList->Em lt (arrOf st').toList->failedOf st'=none->Q () st'):wpS (model prog w) A E s sortRuns' Q (SortSt.mk' κ arr #[] gl none):=by
 rw [sortRuns'_eq]
 refine wpS_bind (wpS_get ?_)
 have hsz:(arrOf (SortSt.mk' κ arr #[] gl none)).size=N:=hz
 obtain⟨h1,h2⟩:=Af0 N hN2 hN
 generalize hmr:minRun' N N 0=mr at h1 h2
 dsimp only
 simp only [hsz,hmr]
 -- the first loop: one or two runs
 refine wpS_bind (wpS_mono (wpS_forRange
  (I:=λ x c st'=>(x=0/\c=(none,0)/\st'=SortSt.mk' κ arr #[] gl none) ∨
   (x=1/\∃ n ar,c=(none,n)/\1<=n/\n<=N/\(n<N->mr<=n)/\Chg 0 arr ar/\Up lt ar 0 n/\st'=SortSt.mk' κ ar #[(0,n,0)] gl none) ∨
   (2<=x/\∃ n ar p,c=(none,N)/\1<=n/\n<N/\Chg 0 arr ar/\Up lt ar 0 n/\Up lt ar n N/\st'=SortSt.mk' κ ar #[(0,n,p),(n,N-n,0)] gl none))
  (Q:=λ c st'=>c=(none,N)/\((∃ ar,Chg 0 arr ar/\Up lt ar 0 N/\st'=SortSt.mk' κ ar #[(0,N,0)] gl none) ∨
   (∃ n ar p,1<=n/\n<N/\Chg 0 arr ar/\Up lt ar 0 n/\Up lt ar n N/\st'=SortSt.mk' κ ar #[(0,n,p),(n,N-n,0)] gl none))) ?_ ?_ (.inl ⟨rfl,rfl,rfl⟩)) ?_)
 ·rintro x c st' _ hx (⟨rfl,rfl,rfl⟩|⟨rfl,n,ar,rfl,n1,n2,n3,c,u,rfl⟩|⟨hx2,n,ar,p,rfl,n1,n2,c,u1,u2,rfl⟩)
  ·-- the first run
   dsimp only
   rw [if_neg (by omega)]
   simp only [Nat.sub_zero,Nat.zero_add]
   refine wpS_bind (Lz L h hS (by omega) (by omega) ⟨λ m ar m1 m2 c u=>?_⟩)
   dsimp only
   by_cases hm:m<mr
   ·rw [if_pos hm]
    refine wpS_bind (wpS_lift (wpAny_rule ⟨rfl,?_⟩))
    refine wpS_bind (M6 L h (c.mem hS) (by rw [c.size];omega) (by omega) u λ ar' c' u'=>?_)
    simp only [Bool.not_true,Bool.false_eq_true,if_false]
    refine wpS_bind (wpS_get ?_)
    refine wpS_bind (wpS_modify (wpS_pure (.inr (.inl ⟨by first|rfl|trivial,_,ar',rfl,by omega,by omega,by omega,c.trans c',?_,rfl⟩))))
    simpa using u'
   ·rw [if_neg hm]
    refine wpS_bind (wpS_get ?_)
    refine wpS_bind (wpS_modify (wpS_pure (.inr (.inl ⟨by first|rfl|trivial,m,ar,rfl,by omega,by omega,by omega,c,?_,rfl⟩))))
    simpa using u
  ·-- the second one
   dsimp only
   by_cases hn:n ≥ N
   ·rw [if_pos hn]
    obtain rfl:n=N:=by omega
    exact wpS_pure ⟨rfl,.inl ⟨ar,c,u,rfl⟩⟩
   rw [if_neg hn]
   have za:ar.size=N:=by rw [c.size];exact hz
   refine wpS_bind (Lz L h (c.mem hS) (by omega) (by omega) ⟨λ m ar2 m1 m2 c2 u2=>?_⟩)
   have z2:ar2.size=N:=by rw [c2.size];exact za
   dsimp only
   by_cases hm:m<mr
   ·rw [if_pos hm]
    refine wpS_bind (wpS_lift (wpAny_rule ⟨rfl,?_⟩))
    refine wpS_bind (M6 L h (c2.mem (c.mem hS)) (by omega) (by omega) u2 λ ar3 c3 u3=>?_)
    simp only [Bool.not_true,Bool.false_eq_true,if_false]
    rw [show n+min (N-n) mr=N by omega] at u3 ⊢
    rw [show min (N-n) mr=N-n by omega]
    refine wpS_bind (wpS_get ?_)
    rw [show (pendingOf (SortSt.mk' κ ar3 #[(0,n,0)] gl none)).back?=some (0,n,0) from rfl]
    dsimp only
    refine O4 (λ x=>wpS_bind (wpS_get ?_)) ?_
    ·rw [show (if (pendingOf (SortSt.mk' κ ar3 #[(0,n,0)] gl none)).size > 1 then (pendingOf (SortSt.mk' κ ar3 #[(0,n,0)] gl none))[(pendingOf (SortSt.mk' κ ar3 #[(0,n,0)] gl none)).size-2]? else none)=none from rfl]
     exact wpS_pure ⟨rfl,rfl⟩
    ·exact wpS_bind (wpS_modify (wpS_bind (wpS_modify (wpS_pure (.inr (.inr ⟨by omega,n,ar3,power' N (2 * 0+n) (2 * 0+n+n+(N-n)) N,by first|rfl|(show (none,n+_)=_;congr 1;omega),n1,by omega,c.trans ⟨(c2.trans c3).prm,λ k hk=>by omega⟩,Xn (c2.trans c3) u,u3,rfl⟩))))))
   ·rw [if_neg hm]
    obtain rfl:m=N-n:=by omega
    rw [show n+(N-n)=N by omega] at u2 ⊢
    refine wpS_bind (wpS_get ?_)
    rw [show (pendingOf (SortSt.mk' κ ar2 #[(0,n,0)] gl none)).back?=some (0,n,0) from rfl]
    dsimp only
    refine O4 (λ x=>wpS_bind (wpS_get ?_)) ?_
    ·rw [show (if (pendingOf (SortSt.mk' κ ar2 #[(0,n,0)] gl none)).size > 1 then (pendingOf (SortSt.mk' κ ar2 #[(0,n,0)] gl none))[(pendingOf (SortSt.mk' κ ar2 #[(0,n,0)] gl none)).size-2]? else none)=none from rfl]
     exact wpS_pure ⟨rfl,rfl⟩
    ·exact wpS_bind (wpS_modify (wpS_bind (wpS_modify (wpS_pure (.inr (.inr ⟨by omega,n,ar2,power' N (2 * 0+n) (2 * 0+n+n+(N-n)) N,by first|rfl|(show (none,n+_)=_;congr 1;omega),n1,by omega,c.trans ⟨c2.prm,λ k hk=>by omega⟩,Xn c2 u,u2,rfl⟩))))))
  ·dsimp only
   rw [if_pos (by omega)]
   exact wpS_pure ⟨rfl,.inr ⟨n,ar,p,n1,n2,c,u1,u2,rfl⟩⟩
 ·rintro c st' (⟨hx,_⟩|⟨hx,_⟩|⟨hx2,n,ar,p,rfl,n1,n2,c,u1,u2,rfl⟩)
  ·omega
  ·omega
  ·exact⟨rfl,.inr ⟨n,ar,p,n1,n2,c,u1,u2,rfl⟩⟩
 ·rintro c st' ⟨rfl,(⟨ar,c,u,rfl⟩|⟨n,ar,p,n1,n2,c,u1,u2,rfl⟩)⟩
  ·have za:ar.size=N:=by rw [c.size];exact hz
   dsimp only
   refine wpS_bind (wpS_mono (wpS_forRange (I:=λ _ c st'=>c=(none,())/\st'=SortSt.mk' κ ar #[(0,N,0)] gl none) (Q:=λ c st'=>c=(none,())/\st'=SortSt.mk' κ ar #[(0,N,0)] gl none) ?_ (λ c st' hh=>hh) ⟨rfl,rfl⟩) ?_)
   ·rintro x c st' _ _ ⟨rfl,rfl⟩
    refine wpS_bind (wpS_get ?_)
    rw [if_pos (show (pendingOf (SortSt.mk' κ ar #[(0,N,0)] gl none)).size<=1 from Nat.le_refl 1)]
    exact wpS_pure ⟨rfl,rfl⟩
   ·rintro c st' ⟨rfl,rfl⟩
    exact wpS_pure (q _ (Array.perm_iff_toList_perm.mp c.prm) (Aef (by rw [za];exact u)) rfl)
  ·have za:ar.size=N:=by rw [c.size];exact hz
   dsimp only
   refine wpS_bind (wpS_mono (wpS_forRange (I:=λ x c st'=>c=(none,())/\((x=0/\st'=SortSt.mk' κ ar #[(0,n,p),(n,N-n,0)] gl none)\/(1<=x/\(arrOf st').toList.Perm ar.toList/\Em lt (arrOf st').toList/\failedOf st'=none/\(pendingOf st').size=1)))
    (Q:=λ c st'=>c=(none,())/\(arrOf st').toList.Perm ar.toList/\Em lt (arrOf st').toList/\failedOf st'=none) ?_ ?_ ⟨rfl,.inl ⟨rfl,rfl⟩⟩) ?_)
   ·rintro x c st' _ _ ⟨rfl,(⟨rfl,rfl⟩|⟨hx,a1,a2,a3,a4⟩)⟩
    ·refine wpS_bind (wpS_get ?_)
     rw [if_neg (show ¬ (pendingOf (SortSt.mk' κ ar #[(0,n,p),(n,N-n,0)] gl none)).size<=1 from (by decide:¬ 2<=1))]
     refine wpS_bind (Vw L h (c.mem hS) n1 (by omega) (by omega) (Afr u1 (by omega)) (Ae4 (by rw [za];exact u2)) λ st' a1 a2 a3 a4=>?_)
     exact wpS_pure ⟨rfl,.inr ⟨by omega,a1,a2,a3,a4⟩⟩
    ·refine wpS_bind (wpS_get ?_)
     rw [if_pos (by rw [a4];exact Nat.le_refl 1)]
     exact wpS_pure ⟨rfl,a1,a2,a3⟩
   ·rintro c st' ⟨rfl,(⟨hx,_⟩|⟨hx,a1,a2,a3,a4⟩)⟩
    ·omega
    ·exact⟨rfl,a1,a2,a3⟩
   ·rintro c' st' ⟨rfl,a1,a2,a3⟩
    exact wpS_pure (q _ (a1.trans (Array.perm_iff_toList_perm.mp c.prm)) a2 a3)
end
end M
namespace M
open PySem PySem.W PySem.Spec PyProof.Rows L2

section
variable {prog:Program}{w:World}{A:Around}{E:Value->Shared->Prop}{s:Shared}
theorem Za {vs:List Value}(_:vs.length<2):(vs.toArray.zip vs.toArray).map (·.2)=vs.toArray:=by
 rw [List.zip_toArray,List.map_toArray]
 exact congrArg _ (List.map_snd_zip (Nat.le_refl _))
theorem Kf {a:Addr}{vs:List Value}{n:Nat}{P:PySem.Fin->Shared->Prop}(ho:s.heap.get? a=some (seqObj "list" vs.toArray n)) (h2:vs.length<2)
  (h:P (.done (.ret .none)) { s with heap:=sortedHeap s.heap a vs vs.toArray }):wpAny (model prog w) A (Builtin.«list.sort» ⟨[.ref a],[]⟩) P E s:=by
 rw [list_sort_plain]
 have ha:a<s.heap.objs.size:=Heap.lt_size ho
 refine wpAny_bind (listItems_at ho rfl ?_)
 refine wpAny_bind (listUpdate_at ho rfl ?_ (by rw [List.size_toArray,sizeLine_eq];omega) (Nat.zero_le _))
 obtain⟨e1,ho1⟩:∃ e1,(s.heap.update a (Obj.mapSeq λ _=>#[])).get? a=some (seqObj "list" #[] e1):=⟨_,get?_update_seq ho (λ _=>#[])⟩
 refine wpAny_bind (seqEpoch_at ho1 rfl ?_)
 refine wpAny_bind (wpAny_newTuple ?_ (by show vs.length<=_;rw [sizeLine_eq];omega))
 refine wpAny_bind (wpAny_newList ?_ (Nat.zero_le _))
 refine wpAny_holding ?_
 have ho6:(((s.heap.update a (Obj.mapSeq λ _=>#[])).push (seqObj "tuple" vs.toArray 0)).push (seqObj "list" #[] 0)).get? a=some (seqObj "list" #[] e1):=by
  rw [Heap.get?_push_ne _ _ _ (by rw [size_push',Heap.size_update];exact Nat.ne_of_lt (Nat.lt_succ_of_lt ha)),Heap.get?_push_ne _ _ _ (by rw [Heap.size_update];exact Nat.ne_of_lt ha)]
  exact ho1
 show wpAny (model prog w) A _ P E { s with heap:=((s.heap.update a (Obj.mapSeq λ _=>#[])).push (seqObj "tuple" vs.toArray 0)).push (seqObj "list" #[] 0) }
 dsimp only
 have h2':vs.toArray.size<2:=by simpa using h2
 rw [if_pos h2',if_pos h2']
 refine wpAny_bind (wpAny_pure ?_)
 rw [StateT.run_pure]
 refine wpAny_bind (wpAny_pure ?_)
 dsimp only
 refine wpAny_bind (seqEpoch_at ho6 rfl ?_)
 have hout:(arrOf (SortSt.mk' general' (vs.toArray.zip vs.toArray) #[] 7 none)).map (·.2)=vs.toArray:=by
  exact Za h2
 refine wpAny_bind (listUpdate_at ho6 rfl ?_ (Nat.zero_le _) (by rw [hout,List.size_toArray,sizeLine_eq];omega))
 simp only [bne_self_eq_false,Bool.false_eq_true,if_false]
 rw [hout]
 exact wpAny_pure h
theorem Qu {l:Addr}{vs:List Value}{Q:Value->Shared->Prop}(hl:s.heap.IsList l vs.toArray) (h2:vs.length<2)
  (h:Q (.ref (s.heap.objs.size+1)) { s with heap:=sortedAll s.heap vs vs.toArray }):wpAny (model prog w) A (call (.builtin "sorted") [.ref l]) Q E s:=by
 refine Calls.call_function_entry kind_sorted plain_sorted entry_sorted (args_sorted1 _) ?_
 unfold Builtin.«sorted»
 refine wpAny_bind (m:=checkCount "sorted" 1 1 _) (wpAny_pure ?_)
 refine wpAny_bind (collect_list hl ?_ (by rw [sizeLine_eq];omega))
 refine wpAny_bind (wpAny_newList ?_ (by rw [sizeLine_eq];omega))
 have hsz:((s.heap.push (seqObj "list" #[] 0)).update s.heap.objs.size (Obj.mapSeq (·++vs.toArray))).objs.size=s.heap.objs.size+1:=by
  rw [Heap.size_update,size_push']
 have hoL:(((s.heap.push (seqObj "list" #[] 0)).update s.heap.objs.size (Obj.mapSeq (·++vs.toArray))).push (seqObj "list" vs.toArray 0)).get? (s.heap.objs.size+1)=some (seqObj "list" vs.toArray 0):=by
  rw [<-hsz];exact Heap.get?_push_size _ rfl
 show wpAny _ _ _ _ _ { s with heap:=((s.heap.push (seqObj "list" #[] 0)).update s.heap.objs.size (Obj.mapSeq (·++vs.toArray))).push (seqObj "list" vs.toArray 0) }
 rw [hsz]
 refine wpAny_bind (wpAny_holding (wpAny_call_entry slot_list_sort ⟨_,hoL,rfl⟩ entry_list_sort (Kf hoL h2 ⟨_,rfl,?_⟩) (args_list_sort _)))
 exact wpAny_pure ⟨_,rfl,h⟩
end

section
variable {prog:Program}{w:World}{A:Around}{E:Value->Shared->Prop}{s:Shared}
theorem Wr {a:Addr}{vs:List Value}{n:Nat}{P:PySem.Fin->Shared->Prop}{κ:SortKind}{lt:Keyed->Keyed->Bool}{S:Keyed->Prop}(ho:s.heap.get? a=some (seqObj "list" vs.toArray n)) (h2:2<=vs.length) (h67:vs.length<67) (L:LtK lt) (hS:∀ x∈(vs.toArray.zip vs.toArray).toList,S x)
  (hk:∀ h1:Heap,(∀ b o,b≠a->s.heap.get? b=some o->h1.get? b=some o)->(∀ Q:SortKind->Shared->Prop,Q κ { s with heap:=h1 }->wpAny (model prog w) A (keyKind' vs.toArray) Q (λ _ _=>False) { s with heap:=h1 })/\Rw prog w A { s with heap:=h1 } κ lt S)
  (h:∀ arr:Array Keyed,arr.toList.Perm (vs.toArray.zip vs.toArray).toList->Em lt arr.toList->P (.done (.ret .none)) { s with heap:=sortedHeap s.heap a vs (arr.map (·.2)) }):wpAny (model prog w) A (Builtin.«list.sort» ⟨[.ref a],[]⟩) P E s:=by
 rw [list_sort_plain]
 have ha:a<s.heap.objs.size:=Heap.lt_size ho
 refine wpAny_bind (listItems_at ho rfl ?_)
 refine wpAny_bind (listUpdate_at ho rfl ?_ (by rw [List.size_toArray,sizeLine_eq];omega) (Nat.zero_le _))
 obtain⟨e1,ho1⟩:∃ e1,(s.heap.update a (Obj.mapSeq λ _=>#[])).get? a=some (seqObj "list" #[] e1):=⟨_,get?_update_seq ho (λ _=>#[])⟩
 refine wpAny_bind (seqEpoch_at ho1 rfl ?_)
 refine wpAny_bind (wpAny_newTuple ?_ (by show vs.length<=_;rw [sizeLine_eq];omega))
 refine wpAny_bind (wpAny_newList ?_ (Nat.zero_le _))
 refine wpAny_holding ?_
 have ho6:(((s.heap.update a (Obj.mapSeq λ _=>#[])).push (seqObj "tuple" vs.toArray 0)).push (seqObj "list" #[] 0)).get? a=some (seqObj "list" #[] e1):=by
  rw [Heap.get?_push_ne _ _ _ (by rw [size_push',Heap.size_update];exact Nat.ne_of_lt (Nat.lt_succ_of_lt ha)),Heap.get?_push_ne _ _ _ (by rw [Heap.size_update];exact Nat.ne_of_lt ha)]
  exact ho1
 have old6:∀ b o,b≠a->s.heap.get? b=some o->(((s.heap.update a (Obj.mapSeq λ _=>#[])).push (seqObj "tuple" vs.toArray 0)).push (seqObj "list" #[] 0)).get? b=some o:=λ b o hb e=>by
  have hlt:=Heap.lt_size e
  rw [Heap.get?_push_ne _ _ _ (by rw [size_push',Heap.size_update];exact Nat.ne_of_lt (Nat.lt_succ_of_lt hlt)),Heap.get?_push_ne _ _ _ (by rw [Heap.size_update];exact Nat.ne_of_lt hlt),Heap.get?_update_ne _ _ _ _ hb]
  exact e
 obtain⟨k1,k2⟩:=hk _ old6
 show wpAny (model prog w) A _ P E { s with heap:=((s.heap.update a (Obj.mapSeq λ _=>#[])).push (seqObj "tuple" vs.toArray 0)).push (seqObj "list" #[] 0) }
 dsimp only
 have h2':¬ vs.toArray.size<2:=by rw [List.size_toArray];omega
 rw [if_neg h2',if_neg h2']
 refine wpAny_bind (wpAny_mono (k1 (λ κ' s'=>κ'=κ/\s'=_) ⟨rfl,rfl⟩) (λ κ' s' hk'=>?_) λ _ _ x=>x.elim)
 obtain⟨rfl,rfl⟩:=hk'
 refine wpAny_bind (wpAny_mono (Ad4 (E:=E) (Q:=λ _ st'=>(arrOf st').toList.Perm (vs.toArray.zip vs.toArray).toList/\Em lt (arrOf st').toList/\failedOf st'=none) L k2 hS (N:=vs.length) (by simp) h2 h67 λ st' a1 a2 a3=>⟨a1,a2,a3⟩) ?_ λ _ _ x=>x)
 rintro⟨⟨⟩,st'⟩ s' ⟨rfl,a1,a2,a3⟩
 dsimp only
 have hsz:((arrOf st').map (·.2)).size=vs.length:=by
  rw [Array.size_map,<-Array.length_toList,a1.length_eq];simp
 refine wpAny_bind (seqEpoch_at ho6 rfl ?_)
 refine wpAny_bind (listUpdate_at ho6 rfl ?_ (Nat.zero_le _) (by rw [hsz,sizeLine_eq];omega))
 rw [a3]
 simp only [bne_self_eq_false,Bool.false_eq_true,if_false]
 exact wpAny_pure (h _ a1 a2)
theorem Aep {l:Addr}{vs:List Value}{Q:Value->Shared->Prop}{κ:SortKind}{lt:Keyed->Keyed->Bool}{S:Keyed->Prop}(hl:s.heap.IsList l vs.toArray) (h2:2<=vs.length) (h67:vs.length<67) (L:LtK lt) (hS:∀ x∈(vs.toArray.zip vs.toArray).toList,S x)
  (hk:∀ (A:Around) (h1:Heap),(∀ b o,s.heap.get? b=some o->h1.get? b=some o)->(∀ Q:SortKind->Shared->Prop,Q κ { s with heap:=h1 }->wpAny (model prog w) A (keyKind' vs.toArray) Q (λ _ _=>False) { s with heap:=h1 })/\Rw prog w A { s with heap:=h1 } κ lt S)
  (h:∀ arr:Array Keyed,arr.toList.Perm (vs.toArray.zip vs.toArray).toList->Em lt arr.toList->Q (.ref (s.heap.objs.size+1)) { s with heap:=sortedAll s.heap vs (arr.map (·.2)) }):wpAny (model prog w) A (call (.builtin "sorted") [.ref l]) Q E s:=by
 refine Calls.call_function_entry kind_sorted plain_sorted entry_sorted (args_sorted1 _) ?_
 unfold Builtin.«sorted»
 refine wpAny_bind (m:=checkCount "sorted" 1 1 _) (wpAny_pure ?_)
 refine wpAny_bind (collect_list hl ?_ (by rw [sizeLine_eq];omega))
 refine wpAny_bind (wpAny_newList ?_ (by rw [sizeLine_eq];omega))
 have hsz:((s.heap.push (seqObj "list" #[] 0)).update s.heap.objs.size (Obj.mapSeq (·++vs.toArray))).objs.size=s.heap.objs.size+1:=by
  rw [Heap.size_update,size_push']
 have hoL:(((s.heap.push (seqObj "list" #[] 0)).update s.heap.objs.size (Obj.mapSeq (·++vs.toArray))).push (seqObj "list" vs.toArray 0)).get? (s.heap.objs.size+1)=some (seqObj "list" vs.toArray 0):=by
  rw [<-hsz];exact Heap.get?_push_size _ rfl
 have old:∀ b o,s.heap.get? b=some o->(((s.heap.push (seqObj "list" #[] 0)).update s.heap.objs.size (Obj.mapSeq (·++vs.toArray))).push (seqObj "list" vs.toArray 0)).get? b=some o:=λ b o e=>by
  have hlt:=Heap.lt_size e
  rw [Heap.get?_push_ne _ _ _ (by rw [hsz];exact Nat.ne_of_lt (Nat.lt_succ_of_lt hlt)),Heap.get?_update_ne _ _ _ _ (Nat.ne_of_lt hlt),Heap.get?_push_ne _ _ _ (Nat.ne_of_lt hlt)]
  exact e
 show wpAny _ _ _ _ _ { s with heap:=((s.heap.push (seqObj "list" #[] 0)).update s.heap.objs.size (Obj.mapSeq (·++vs.toArray))).push (seqObj "list" vs.toArray 0) }
 rw [hsz]
 refine wpAny_bind (wpAny_holding (wpAny_call_entry slot_list_sort ⟨_,hoL,rfl⟩ entry_list_sort (Wr hoL h2 h67 L hS (λ h1 keep=>hk _ h1 λ b o e=>keep b o (λ z=>?_) (old b o e)) λ arr a1 a2=>⟨_,rfl,?_⟩) (args_list_sort _)))
 ·have hlt:=Heap.lt_size e
  rw [z] at hlt
  exact absurd hlt (Nat.not_lt.mpr (Nat.le_succ _))
 ·exact wpAny_pure ⟨_,rfl,h arr a1 a2⟩
end
theorem Yn {α β:Type}{f:α->β}:∀ {l₁ l₂:List β},l₁.Perm l₂->∀ m:List α,l₂=m.map f->∃ m':List α,m'.Perm m/\l₁=m'.map f:=by
 intro l₁ l₂ h
 induction h with
 | nil=>intro m e;exact⟨m,List.Perm.refl _,e⟩
 | cons x _ ih =>
  intro m e
  cases m with
  | nil=>cases e
  | cons y m =>
   obtain⟨e1,e2⟩:=List.cons.inj e
   subst e1
   obtain⟨m',h1,rfl⟩:=ih m e2
   exact⟨y :: m',h1.cons y,rfl⟩
 | swap x y l =>
  intro m e
  match m,e with
  | a :: b :: m,e =>
   obtain⟨e1,e2⟩:=List.cons.inj e
   obtain⟨e3,e4⟩:=List.cons.inj e2
   subst e1 e3 e4
   exact⟨b :: a :: m,List.Perm.swap _ _ _,rfl⟩
 | trans _ _ ih1 ih2 =>
  intro m e
  obtain⟨m1,p1,e1⟩:=ih2 m e
  obtain⟨m2,p2,e2⟩:=ih1 m1 e1
  exact⟨m2,p2.trans p1,e2⟩
theorem Pj:∀ a:List Int,HT.lexLt a a=false
 | []=>rfl
 | x :: xs=>by rw [HT.lexLt_cons,if_pos rfl];exact Pj xs
theorem Nz:∀ {a b:List Int},HT.lexLt a b=true->HT.lexLt b a=false
 | [],[],h=>by cases h
 | [],_ :: _,_=>rfl
 | _ :: _,[],h=>by cases h
 | x :: xs,y :: ys,h=>by
  rw [HT.lexLt_cons] at h ⊢
  by_cases e:x=y
  ·rw [if_pos e] at h;rw [if_pos e.symm];exact Nz h
  ·rw [if_neg e] at h
   rw [if_neg (Ne.symm e)]
   have:=of_decide_eq_true h
   exact decide_eq_false (by omega)
theorem Ou:∀ {a b c:List Int},HT.lexLt b a=false->HT.lexLt c b=false->HT.lexLt c a=false
 | a,b,[],h1,h2=>by
  cases b with
  | nil=>exact h1
  | cons y ys=>cases h2
 | [],b,z :: zs,h1,h2=>rfl
 | x :: xs,[],z :: zs,h1,h2=>by cases h1
 | x :: xs,y :: ys,z :: zs,h1,h2=>by
  rw [HT.lexLt_cons] at h1 h2 ⊢
  by_cases e1:y=x
  ·rw [if_pos e1] at h1
   subst e1
   by_cases e2:z=y
   ·rw [if_pos e2] at h2 ⊢;exact Ou h1 h2
   ·rw [if_neg e2] at h2 ⊢;exact h2
  ·rw [if_neg e1] at h1
   have q1:=of_decide_eq_false h1
   by_cases e2:z=y
   ·subst e2;rw [if_neg e1];exact h1
   ·rw [if_neg e2] at h2
    have q2:=of_decide_eq_false h2
    rw [if_neg (by omega)]
    exact decide_eq_false (by omega)
theorem Vg:∀ {a b:List Int},HT.lexLt a b=false->HT.lexLt b a=false->a=b
 | [],[],_,_=>rfl
 | [],_ :: _,h,_=>by cases h
 | _ :: _,[],_,h=>by cases h
 | x :: xs,y :: ys,h1,h2=>by
  rw [HT.lexLt_cons] at h1 h2
  by_cases e:x=y
  ·rw [if_pos e] at h1;rw [if_pos e.symm] at h2
   rw [e,Vg h1 h2]
  ·rw [if_neg e] at h1;rw [if_neg (Ne.symm e)] at h2
   have q1:=of_decide_eq_false h1
   have q2:=of_decide_eq_false h2
   omega
noncomputable def Ag0 (k:List Int):List (List Int)->List (List Int)
 | []=>[k]
 | j :: r=>if HT.lexLt j k=true then j :: Ag0 k r else k :: j :: r
noncomputable def Gk:List (List Int)->List (List Int)
 | []=>[]
 | k :: r=>Ag0 k (Gk r)
noncomputable def Asc (l:List (List Int)):Prop:=l.Pairwise λ a b=>HT.lexLt b a=false
theorem Lb (k:List Int):∀ l,(Ag0 k l).Perm (k :: l)
 | []=>List.Perm.refl _
 | j :: r=>by
  unfold Ag0
  split
  ·exact (List.Perm.cons j (Lb k r)).trans (List.Perm.swap k j r)
  ·exact List.Perm.refl _
theorem G3:∀ l,(Gk l).Perm l
 | []=>List.Perm.refl _
 | k :: r=>(Lb k (Gk r)).trans (List.Perm.cons k (G3 r))
theorem U7 (k:List Int):∀ {l},Asc l->Asc (Ag0 k l)
 | [],_=>List.Pairwise.cons (λ _ h=>by simp at h) List.Pairwise.nil
 | j :: r,h=>by
  unfold Asc at h
  rw [List.pairwise_cons] at h
  unfold Ag0
  split
  ·rename_i c
   refine List.Pairwise.cons (λ b hb=>?_) (U7 k h.2)
   rcases List.mem_cons.mp ((Lb k r).mem_iff.mp hb) with rfl|hb
   ·exact Nz c
   ·exact h.1 b hb
  ·rename_i c
   have c:HT.lexLt j k=false:=by simpa using c
   refine List.Pairwise.cons (λ b hb=>?_) (List.Pairwise.cons h.1 h.2)
   rcases List.mem_cons.mp hb with rfl|hb
   ·exact c
   ·exact Ou c (h.1 b hb)
theorem Ky:∀ l,Asc (Gk l)
 | []=>List.Pairwise.nil
 | k :: r=>U7 k (Ky r)
theorem Mz:∀ {a b:List (List Int)},Asc a->Asc b->a.Perm b->a=b
 | [],b,_,_,p=>(List.Perm.nil_eq p)
 | x :: xs,[],_,_,p=>by have:=p.length_eq;simp at this
 | x :: xs,y :: ys,ha,hb,p=>by
  unfold Asc at ha hb
  rw [List.pairwise_cons] at ha hb
  have e:x=y:=by
   have hx:x∈y :: ys:=p.mem_iff.mp List.mem_cons_self
   have hy:y∈x :: xs:=p.mem_iff.mpr List.mem_cons_self
   rcases List.mem_cons.mp hx with h|h
   ·exact h
   rcases List.mem_cons.mp hy with h'|h'
   ·exact h'.symm
   ·exact Vg (hb.1 x h) (ha.1 y h') |>.symm ▸ rfl
  subst e
  rw [Mz ha.2 hb.2 (List.Perm.cons_inv p)]
theorem Jt {a b:List (List Int)}(ha:Asc a) (p:a.Perm b):a=Gk b:=Mz ha (Ky b) (p.trans (G3 b).symm)

section
variable {X:Cx}
noncomputable def TupAt (H:Hp) (y:V) (k:List Int):Prop:=∃ a,y=.ref a/\H a=some (.tup (k.map V.int))
noncomputable def Xz (K:PySem.W.Frag):List V->Hp->VK->Prop:=λ xs H Q=>∃ (p:Addr) (ys:List V) (ks:List (List Int)),xs=[.ref p]/\SqL K H p ys/\Paired (TupAt H) ys ks/\(∀ k∈ks,k≠[])/\ks.length<67 ∧
 ∀ l outs,H l=none->(∀ o∈outs,o∈ys)->Paired (TupAt H) outs (Gk ks)->Q (.ref l) (upd H l (.lst outs))
theorem Fp {α β:Type}{F:α->β->Prop}:∀ {xs:List α}{ys:List β},Paired F xs ys->∀ (i:Nat) (x:α),xs[i]?=some x->∃ y,ys[i]?=some y/\F x y
 | _,_,.nil,i,x,h=>by simp at h
 | _,_,.cons r t,0,x,h=>by simp at h;subst h;exact⟨_,rfl,r⟩
 | _,_,.cons r t,i+1,x,h=>by
  obtain⟨y,e,f⟩:=Fp t i x (by simpa using h)
  exact⟨y,by simpa using e,f⟩
theorem Jd {α β:Type}{F:α->β->Prop}(xs:List α) (ys:List β) (dx:α) (dy:β) (h:Paired F xs ys):∀ (p:List Nat),(∀ i∈p,i<xs.length)->Paired F (p.map λ i=>xs.getD i dx) (p.map λ i=>ys.getD i dy)
 | [],_=>.nil
 | i :: r,hp=>by
  have hi:=hp i List.mem_cons_self
  obtain⟨y,e,f⟩:=Fp h i xs[i] (by simp [hi])
  refine .cons ?_ (Jd xs ys dx dy h r λ j hj=>hp j (List.mem_cons_of_mem _ hj))
  dsimp only
  rw [List.getD_eq_getElem?_getD,List.getD_eq_getElem?_getD,e,List.getElem?_eq_getElem hi]
  exact f
theorem intItems {pins:List (Addr × Obj)}{σ:St}{H:Hp}{s:Shared}{y:V}{u:Value}{k:List Int}(I:Inv X pins σ H s) (h:TupAt H y k) (r:RelV y u):∃ a its,u=.ref a/\H a=some (.tup (k.map V.int))/\IsTup s.heap a its.toArray/\IntsAre its k:=by
 obtain⟨a,rfl,ha⟩:=h
 cases r
 obtain⟨its,rv,ht,hz⟩:=I.tuple (SqT.of ha)
 exact⟨a,its,rfl,ha,ht,intsAre_of rv⟩
theorem Ac2 {prog:Program}{w:World}{A:Around}{s:Shared}{Q:Bool->Shared->Prop}:∀ (us us':List Value) (k k':List Int) (i:Nat),IntsAre us k->IntsAre us' k'->Q (HT.lexLt k k') s->∀ n n':Nat,n+k'.length=n'+k.length->KatLex prog w A true (decide (n<n')) Q (us.zip us') i s
 | [],us',k,k',i,h,h',hq,n,n',e=>by
  cases h
  rw [List.zip_nil_left]
  refine kat_nil ?_
  cases h' with
  | nil=>simp only [List.length_nil] at e;rw [HT.lexLt_nil_nil] at hq;rw [decide_eq_false (by omega)];exact hq
  | cons c u hw=>simp only [List.length_nil,List.length_cons] at e;rw [HT.lexLt_nil_cons] at hq;rw [decide_eq_true (by omega)];exact hq
 | u :: us,[],k,k',i,h,h',hq,n,n',e=>by
  cases h'
  rw [List.zip_nil_right]
  refine kat_nil ?_
  cases h with
  | cons c t hw=>simp only [List.length_nil,List.length_cons] at e;rw [HT.lexLt_cons_nil] at hq;rw [decide_eq_false (by omega)];exact hq
 | u :: us,u' :: us',k,k',i,h,h',hq,n,n',e=>by
  cases h with
  | cons c t hw =>
   cases h' with
   | cons c' t' hw' =>
    rw [List.zip_cons_cons]
    rw [HT.lexLt_cons] at hq
    refine kat_cons (SeqAt.EqAt.int_int c t c' t' prog w _ _ ?_)
    by_cases ec:c=c'
    ·rw [if_pos ec] at hq
     rw [beq_iff_eq.mpr ec]
     exact kat_yes (Ac2 us us' _ _ (i+1) hw hw' hq n n' (by simp only [List.length_cons] at e;omega))
    ·rw [if_neg ec] at hq
     rw [beq_eq_false_iff_ne.mpr ec]
     refine kat_no ?_
     by_cases hi:i=0
     ·subst hi;exact oneLt_int hq
     ·have:(true && i == 0)=false:=by simp [hi]
      rw [this]
      exact kat_one _ _ (PyProof.Rows.lt_int hq)
theorem Nr {pins:List (Addr × Obj)}{σ:St}{H:Hp}{s:Shared}(I:Inv X pins σ H s) {h:Heap}(keep:∀ b o u,H b=some u->s.heap.get? b=some o->h.get? b=some o):∀ {ys:List V}{us:List Value}{ks:List (List Int)},Paired (TupAt H) ys ks->Vals ys us->(∀ k∈ks,k≠[]) →
  ∃ fs:List Value,KatTups h us fs/\fs.length=us.length/\∀ f∈fs,∃ i t,f=.int i t
 | _,_,_,.nil,.nil,_=>⟨[],KatTups.nil,rfl,λ f hf=>by simp at hf⟩
 | _,_,_,.cons t r,.cons v q,ne=>by
  obtain⟨fs,h1,h2,h3⟩:=Nr I keep r q λ k hk=>ne k (List.mem_cons_of_mem _ hk)
  obtain⟨a,its,rfl,hH,⟨o,e,c,n,d⟩,hi⟩:=intItems I t v
  cases hi with
  | nil=>exact absurd rfl (ne _ List.mem_cons_self)
  | cons i tk hw =>
   refine⟨.int i tk :: fs,KatTups.cons (keep _ _ _ hH e) c d (by simp) h1,by simp [h2],λ f hf=>?_⟩
   rcases List.mem_cons.mp hf with rfl|hf
   ·exact⟨i,tk,rfl⟩
   ·exact h3 f hf
theorem Rx {P:Program}{w:World}{H:Hp}{h:Heap}{a:Addr}{o:HO}(x:Cp P w H h a o):∃ ob,h.get? a=some ob:=by
 cases o with
 | lst xs=>obtain⟨_,_,_,_,e⟩:=x;exact⟨_,e⟩
 | tup xs=>obtain⟨_,_,_,ob,e,_⟩:=x;exact⟨_,e⟩
 | dK kvs=>obtain⟨_,_,_,_,o,_,_,e,_⟩:=x;exact⟨_,e⟩
 | dT kvs=>obtain⟨_,_,_,_,o,_,_,e,_⟩:=x;exact⟨_,e⟩
 | set S n=>obtain⟨o,_,_,_,e,_⟩:=x;exact⟨_,e⟩
 | ins C dx fs=>obtain⟨_,_,_,e,_⟩:=x;exact⟨_,e⟩
 | own y=>obtain⟨_,e⟩:=x;exact⟨_,e⟩
 | xd fs=>obtain⟨_,⟨_,_,_,e,_⟩,_⟩:=x;exact⟨_,e⟩
 | rng lo hi=>obtain⟨_,_,_,e⟩:=x;exact⟨_,e⟩
 | frz ob u=>obtain⟨e,_⟩:=x;exact⟨_,e⟩
 | tbl ps=>exact⟨_,(show h.get? a=some _ from x)⟩
 | met f y=>exact⟨_,(show h.get? a=some _ from x)⟩
 | ext φ=>obtain⟨_,⟨_,e⟩,_⟩:=x;exact⟨_,e⟩
theorem Vk {pins:List (Addr × Obj)}{σ:St}{H:Hp}{s s':Shared}{m:Str->Option Value}{D:Addr}{o:HO}(I:Inv X pins σ H s) (F:Fr X.base X.env.locals s.heap m) (F':Fr X.base X.env.locals s'.heap m)
  (keep:∀ b o,b≠X.env.locals->s.heap.get? b=some o->s'.heap.get? b=some o) (nD:s.heap.get? D=none) (new:Cp X.prog X.w (upd H D o) s'.heap D o) (os:s'.os=s.os) (bare:AllBare s'.gens):Inv X pins σ (upd H D o) s':=by
 obtain⟨h',g',d',t',o'⟩:=s'
 have e:o'=s.os:=os
 subst e
 have neD:∀ b ob,s.heap.get? b=some ob->b≠D:=λ b ob e z=>by subst z;rw [nD] at e;cases e
 have hD:H D=none:=by
  cases q:H D with
  | none=>rfl
  | some u=>obtain⟨ob,e⟩:=Rx (I.hok D u q);rw [nD] at e;cases e
 have neL:∀ b u,H b=some u->b≠X.env.locals:=λ b u e z=>by rw [z,I.free] at e;cases e
 refine I.step (g':=g') (d':=d') (t':=t') (ch:=[]) (λ b hb=>by simp at hb) (λ b ob hL _ _ e _=>keep b ob hL e) (λ b ob hL _ _ e _=>⟨ob.slots,keep b ob hL e⟩) (λ b ob _ e n=>by rw [Ah (neD b ob e)];exact n)
  (λ b ob _ e=>?_) (λ b xs e=>by rw [Ah (Aw e hD)];exact e) (λ b u xs e=>by rw [Ah (Aw e hD)];exact e) (λ b ps e=>⟨#[],by rw [Ah (Aw e hD),e];simp⟩) (λ m' hm=>?_) (λ b u e=>?_) bare
 ·by_cases hb:b=X.env.locals
  ·obtain⟨ob',_,_,e',_⟩:=F'.ns
   exact⟨ob',by rw [hb];exact e'⟩
  ·exact⟨ob,keep b ob hb e⟩
 ·have:m'=m:=by
   obtain⟨o1,es1,ep1,a1,a2,a3,a4⟩:=hm
   obtain⟨o2,es2,ep2,b1,b2,b3,b4⟩:=F.ns
   rw [a1] at b1;cases b1
   rw [a2] at b2;cases b2
   funext x;rw [<-a4 x,<-b4 x]
  rw [this];exact F'.ns
 ·by_cases hb:b=D
  ·subst hb;rw [Aq] at e;cases e;exact new
  ·rw [Ah hb] at e
   refine (I.hok b u e).stay (λ c v hc q=>keep c v ?_ q) (λ c q=>by rw [Ah (Aw q hD)];exact q) λ c xs q=>by rw [Ah (Aw q hD)];exact q
   rcases hc with z|z
   ·rw [z];exact neL b u e
   ·exact neL c _ z
theorem Akx {pins:List (Addr × Obj)}{σ:St}{H:Hp}{s:Shared}{ys:List V}{its:List Value}{ks:List (List Int)}(I:Inv X pins σ H s) (pk:Paired (TupAt H) ys ks) (rv:Vals ys its) (ne:∀ k∈ks,k≠[]) (h2:2<=its.length) :
  ∃ (κ:SortKind) (lt:Keyed->Keyed->Bool) (S:Keyed->Prop),LtK lt/\(∀ x∈(its.toArray.zip its.toArray).toList,S x) ∧
   (∀ (A:Around) (s':Shared),(∀ b o u,H b=some u->s.heap.get? b=some o->s'.heap.get? b=some o)->(∀ Q:SortKind->Shared->Prop,Q κ s'->wpAny (model X.prog X.w) A (keyKind' its.toArray) Q (λ _ _=>False) s')/\Rw X.prog X.w A s' κ lt S) ∧
   ∀ arr:Array Keyed,arr.toList.Perm (its.toArray.zip its.toArray).toList->Em lt arr.toList->∃ outs,(∀ o∈outs,o∈ys)/\Paired (TupAt H) outs (Gk ks)/\Vals outs (arr.map (·.2)).toList:=by
 have l1:its.length=ks.length:=by rw [<-rv.length];exact Paired.length pk
 have hys:ys.length=its.length:=rv.length
 -- each thing and its key
 have key:∀ i,i<its.length->∃ a,its.getD i .none=.ref a/\H a=some (.tup ((ks.getD i []).map V.int)):=λ i hi=>by
  have hyl:i<ys.length:=by omega
  obtain⟨k,ek,tk⟩:=Fp pk i (ys[i]'hyl) (by simp [hyl])
  obtain⟨u,eu,ru⟩:=rv.get (i:=i) (x:=ys[i]'hyl) (by simp [hyl])
  obtain⟨a,ea,hH⟩:=tk
  rw [ea] at ru
  cases ru
  exact⟨a,by rw [List.getD_eq_getElem?_getD,eu];rfl,by rw [List.getD_eq_getElem?_getD,ek];exact hH⟩
 classical
 let kof:Value->List Int:=λ v=>if h:∃ i,i<its.length/\its.getD i .none=v then ks.getD (Classical.choose h) [] else []
 have kofe:∀ i,i<its.length->kof (its.getD i .none)=ks.getD i []:=λ i hi=>by
  have h:∃ j,j<its.length/\its.getD j .none=its.getD i .none:=⟨i,hi,rfl⟩
  show (if h:∃ j,j<its.length/\its.getD j .none=its.getD i .none then ks.getD (Classical.choose h) [] else [])=_
  rw [dif_pos h]
  obtain⟨c1,c2⟩:=Classical.choose_spec h
  obtain⟨a,e1,e2⟩:=key _ c1
  obtain⟨a',e1',e2'⟩:=key i hi
  rw [c2,e1'] at e1
  cases e1
  rw [e2'] at e2
  have inj:∀ (p q:List Int),p.map V.int=q.map V.int->p=q:=λ p q e=>by
   induction p generalizing q with
   | nil=>cases q with
    | nil=>rfl
    | cons _ _=>cases e
   | cons x p ih=>cases q with
    | nil=>cases e
    | cons y q =>
     obtain⟨h1,h2⟩:=List.cons.inj e
     cases h1
     rw [ih q h2]
  have e3:(ks.getD i []).map V.int=(ks.getD (Classical.choose h) []).map V.int:=by
   injection (Option.some.inj e2)
  exact (inj _ _ e3).symm
 have zip:(its.toArray.zip its.toArray).toList=(List.range its.length).map λ i=>(its.getD i .none,its.getD i .none):=by
  rw [List.zip_toArray]
  refine List.ext_getElem (by simp) λ i h1 h2=>?_
  have hi:i<its.length:=by simpa using h2
  simp [hi]
 refine⟨tuples' (Value.type "int" != Value.type "tuple"),λ x y=>HT.lexLt (kof x.1) (kof y.1),λ x=>∃ i,i<its.length/\x=(its.getD i .none,its.getD i .none),⟨λ a=>Pj _,λ h1 h2=>Ou h1 h2,λ h=>Nz h⟩,λ x hx=>?_,λ A s' keep=>⟨λ Q hQ=>?_,λ x y Q hx hy hQ=>?_⟩,λ arr hp hs=>?_⟩
 ·rw [zip] at hx
  obtain⟨i,hi,rfl⟩:=List.mem_map.mp hx
  exact⟨i,by simpa using hi,rfl⟩
 ·obtain⟨fs,kt,lf,fi⟩:=Nr I (h:=s'.heap) keep pk rv ne
  exact kat_kind (T:=.type "int") kt (by omega) (λ v hv=>by obtain⟨i,t,rfl⟩:=fi v hv;exact Looks.of_pure rfl) (by first|rfl|decide) hQ
 ·obtain⟨i,hi,rfl⟩:=hx
  obtain⟨j,hj,rfl⟩:=hy
  dsimp only at hQ ⊢
  rw [kofe i hi,kofe j hj] at hQ
  have at':∀ i,i<its.length->∃ a ws,its.getD i .none=.ref a/\IsTup s'.heap a ws.toArray/\IntsAre ws (ks.getD i []):=λ i hi=>by
   have hyl:i<ys.length:=by omega
   obtain⟨k,ek,tk⟩:=Fp pk i (ys[i]'hyl) (by simp [hyl])
   obtain⟨u,eu,ru⟩:=rv.get (i:=i) (x:=ys[i]'hyl) (by simp [hyl])
   obtain⟨a,ws,e1,hH,⟨o,g1,g2,g3⟩,g4⟩:=intItems I tk ru
   exact⟨a,ws,by rw [List.getD_eq_getElem?_getD,eu,e1];rfl,⟨o,keep _ _ _ hH g1,g2,g3⟩,by rw [List.getD_eq_getElem?_getD,ek];exact g4⟩
  obtain⟨a,ws,e1,⟨o,g1,g2,n,g3⟩,g4⟩:=at' i hi
  obtain⟨a',ws',e1',⟨o',g1',g2',n',g3'⟩,g4'⟩:=at' j hj
  rw [e1,e1']
  have la:=g4.length
  have la':=g4'.length
  refine kat_lt g1 g3 g1' g3' ?_
  exact Ac2 ws ws' _ _ 0 g4 g4' hQ _ _ (by simp only [List.size_toArray];omega)
 ·obtain⟨p,hp',ea⟩:=Yn hp _ zip
  have hpl:∀ i∈p,i<its.length:=λ i hi=>by simpa using hp'.mem_iff.mp hi
  refine⟨p.map λ i=>ys.getD i .non,λ o ho=>?_,?_,?_⟩
  ·obtain⟨i,hi,rfl⟩:=List.mem_map.mp ho
   have hi':i<ys.length:=by rw [hys];exact hpl i hi
   rw [List.getD_eq_getElem?_getD,List.getElem?_eq_getElem hi']
   exact List.getElem_mem hi'
  ·have esort:(p.map λ i=>ks.getD i [])=Gk ks:=by
    refine Jt ?_ ?_
    ·unfold Asc
     rw [ea] at hs
     unfold Em at hs
     rw [List.pairwise_map] at hs ⊢
     refine List.Pairwise.imp_of_mem (λ {a b} ha hb hab=>?_) hs
     dsimp only at hab
     rwa [kofe a (hpl a ha),kofe b (hpl b hb)] at hab
    ·have e2:(List.range its.length).map (λ i=>ks.getD i [])=ks:=by rw [l1];exact range_getD ks []
     have:=hp'.map (λ i=>ks.getD i [])
     rw [e2] at this
     exact this
   rw [<-esort]
   exact Jd ys ks .non [] pk p λ i hi=>by rw [hys];exact hpl i hi
  ·have:(arr.map (·.2)).toList=p.map λ i=>its.getD i Value.none:=by
    rw [Array.toList_map,ea,List.map_map];rfl
   rw [this]
   exact Jd ys its .non .none rv p λ i hi=>by rw [hys];exact hpl i hi
theorem Tv:Fq X (.builtin "sorted") (Xz X.K):=by
 intro pins s σ H xs us Q I r h
 obtain⟨p,ys,ks,rfl,hp,pk,ne,h64,q⟩:=h
 obtain⟨u,rfl,ru⟩:=vals1 r
 cases ru
 obtain⟨its,rv,pl,hz⟩:=I.list hp
 have l1:its.length=ks.length:=by rw [<-rv.length];exact Paired.length pk
 by_cases h2:its.length<2
 ·refine Qu pl.isList h2 ?_
  obtain⟨e,hat⟩:=sortedAll_at s.heap its its.toArray
  have hs:Paired (TupAt H) ys (Gk ks):=by
   have:Gk ks=ks:=by
    match ks,l1 ▸ h2 with
    | [],_=>rfl
    | [_],_=>rfl
   rw [this];exact pk
  refine⟨.ref (s.heap.objs.size+1),_,I.laid (a:=s.heap.objs.size+1) (o:=.lst ys) (t':=s.toks) (λ b o e=>sortedAll_old e) (Nat.le_succ _) ⟨hz,its,e,rv,hat⟩,rfl,q _ ys (I.hok.fresh (Nat.le_succ _)) (λ _ h=>h) hs⟩
 obtain⟨κ,lt,S,c1,c2,c3,c4⟩:=Akx I pk rv ne (by omega)
 refine Aep pl.isList (by omega) (by omega) c1 c2 (λ A h1 keep=>c3 A _ λ b o u _ e=>keep b o e) λ arr a1 a2=>?_
 obtain⟨outs,o1,o2,o3⟩:=c4 arr a1 a2
 obtain⟨e,hat⟩:=sortedAll_at s.heap its (arr.map (·.2))
 have ls:(arr.map (·.2)).toList.length=its.length:=by rw [Array.length_toList,Array.size_map,<-Array.length_toList,a1.length_eq];simp
 have lo:outs.length=its.length:=by rw [o3.length];exact ls
 exact⟨.ref (s.heap.objs.size+1),_,I.laid (a:=s.heap.objs.size+1) (o:=.lst outs) (t':=s.toks) (λ b o e=>sortedAll_old e) (Nat.le_succ _) ⟨by rw [lo,<-rv.length];exact hz,_,e,o3,by rw [Array.toArray_toList];exact hat⟩,rfl,q _ outs (I.hok.fresh (Nat.le_succ _)) o1 o2⟩
end
end M

set_option Elab.async false
set_option linter.all false
set_option maxRecDepth 100000
namespace M
open PySem PySem.W PySem.Spec PyProof.Rows L2

noncomputable def Aaq (h:Heap) (d:Addr) (es:Array DictEntry) (ep:Nat):Prop:=∃ o,h.get? d=some o/\o.ExactDict/\o.data=.dict es ep
section
variable {prog:Program}{w:World}{A:Around}{E:Value->Shared->Prop}{s:Shared}{d it:Addr}{es:Array DictEntry}{ep:Nat}
theorem Aaq.type (x:Aaq s.heap d es ep):s.TypeIs (.ref d) "dict":=by obtain⟨o,h1,h2,_⟩:=x;exact⟨o,h1,h2.1⟩
theorem Aaq.at {h h':Heap}(x:Aaq h d es ep) (e:∀ o,h.get? d=some o->h'.get? d=some o):Aaq h' d es ep:=by obtain⟨o,h1,r⟩:=x;exact⟨o,e o h1,r⟩
end
end M

set_option Elab.async false
set_option linter.all false
set_option maxRecDepth 100000
namespace M
open PySem PySem.Spec PyProof.Rows L2

section
variable {X:Cx}{G:Fc}{a b c:Expr}{ma mb mc:EV}{pos:Pos}
theorem hu0 (gd:Gd X):X.A.units<cLine:=by have:=gd.un;omega
theorem hu1 (gd:Gd X):X.A.units+1<cLine:=by have:=gd.un;omega
theorem hu4 (gd:Gd X):X.A.units+4<cLine:=by have:=gd.un;omega
theorem Vu {G G':Fc}(e:G'.xc=G.xc) (hx:∀ c,¬ G.xc c):∀ c,¬ G'.xc c:=by rw [e];exact hx
theorem Jw {scope:Scope}{s3:Shared}{H3:Hp}{fp:List Addr}{C:Addr}(gd:Gd X):Gd (cxc X scope s3 H3 fp C):=⟨gd.calm,PassesOwn.never,gd.nd,gd.un⟩
theorem Ay (ha:SE X G a ma) (hb:SE X G b mb):SF X G (.BinOp a .Add b pos) (e2 Cg ma mb):=O7 Ago Ajs ha hb
theorem Pq (ha:SE X G a ma) (hb:SE X G b mb):SF X G (.BinOp a .Sub b pos) (e2 Zk ma mb):=O7 Ah5 Ajd ha hb
theorem Ac6 (ha:SE X G a ma) (hb:SE X G b mb):SF X G (.BinOp a .Mult b pos) (e2 Ags ma mb):=O7 Ahz Ag9 ha hb
theorem Ln (ha:SE X G a ma) (hb:SE X G b mb):SF X G (.BinOp a .FloorDiv b pos) (e2 T8 ma mb):=O7 Aex Ajj ha hb
theorem Fo (ha:SE X G a ma) (hb:SE X G b mb):SF X G (.BinOp a .Mod b pos) (e2 Kd ma mb):=O7 Ahf Aje ha hb
theorem Cd (ha:SE X G a ma) (hb:SE X G b mb) (hs:Lj b:=by intro _ _;rfl):SF X G (.Subscript a b pos) (e2 fIx ma mb):=Amq hs Ahl Alc ha hb
theorem Alw (gd:Gd X) (ha:SE X G a ma) (hb:SE X G b mb) (hs:Akk b:=by intro _ _;rfl):SF X G (.Subscript a b pos) (e2 Acv ma mb):=Aeh (hu1 gd) ha hb hs
theorem Amb (gd:Gd X) (ha:SE X G a ma) (hb:SE X G b mb):SF X G (.Compare a [.Lt] [b] pos) (e2 fLt ma mb):=Vi (Adx (hu0 gd)) Aj4 ha hb (K3 _)
theorem Tj (gd:Gd X) (ha:SE X G a ma) (hb:SE X G b mb):SF X G (.Compare a [.Eq] [b] pos) (e2 fEq ma mb):=Vi (Adf (hu4 gd)) Aic ha hb (K3 _)
theorem Ale (gd:Gd X) (ha:SE X G a ma) (hb:SE X G b mb):SF X G (.Compare a [.NotEq] [b] pos) (e2 fNe ma mb):=Vi (Ads (hu4 gd)) Ai6 ha hb (K3 _)
theorem Al3 (gd:Gd X) (ha:SE X G a ma) (hb:SE X G b mb) (hm:behindInMarks .In b=false:=by with_unfolding_all rfl):SF X G (.Compare a [.In] [b] pos) (e2 fIn ma mb):=Vi (Ai9 (hu4 gd)) Ak3 ha hb hm
theorem Abh (gd:Gd X) (ha:SE X G a ma) (hb:SE X G b mb):ST X G (.Compare a [.Lt] [b] pos) (Bh (e2 fLt ma mb)):=U8 (Adx (hu0 gd)) Aj4 ha hb (K3 _)
theorem Ahx (gd:Gd X) (ha:SE X G a ma) (hb:SE X G b mb):ST X G (.Compare a [.Gt] [b] pos) (Bh (e2 fGt ma mb)):=U8 Al8 Aly ha hb (K3 _)
theorem Lw (gd:Gd X) (ha:SE X G a ma) (hb:SE X G b mb):ST X G (.Compare a [.Eq] [b] pos) (Bh (e2 fEq ma mb)):=U8 (Adf (hu4 gd)) Aic ha hb (K3 _)
theorem Ph (gd:Gd X) (ha:SE X G a ma) (hb:SE X G b mb):ST X G (.Compare a [.NotEq] [b] pos) (Bh (e2 fNe ma mb)):=U8 (Ads (hu4 gd)) Ai6 ha hb (K3 _)
noncomputable def RdF (X:Cx) (G:Fc) (m:EV):TE:=λ σ H Q=>∃ E,Rel X.K G E σ H/\Fin (m E) (λ d=>∀ v H',Same H H'->Rp X.K H' (Ow G.pr E σ) d v->Q v H') G.xc
theorem RdF.test {m:EV}{σ:St}{H:Hp}{Q:Bool->Hp->Prop}(h:∃ E,Rel X.K G E σ H/\Fin (Bh m E) (λ b=>∀ H',Same H H'->Q b H') G.xc):RdF X G m σ H λ x H1=>∃ k,x=.bl k/\Q k H1:=by
 obtain⟨E,hr,f⟩:=h
 refine⟨E,hr,(Fin.bind f).mono λ d p v H' s z=>?_⟩
 cases d with
 | bl k=>exact⟨k,z,p H' s⟩
 | _=>exact p.elim
theorem Aey {m:EV}{mi mo:EV}(hm:m=e2 Ae5 mi mo) (σ:St) (H:Hp) (Q:VK) (h:RdF X G m σ H Q) :
  Aog (λ σ H Q=>∃ E,Rel X.K G E σ H/\Fin (mi E) (λ d=>∀ v H',Same H H'->Rt X.K H' (Ow G.pr E σ) d v->Q v H') G.xc) (λ σ H Q=>∃ E,Rel X.K G E σ H/\Fin (mo E) (λ d=>∀ v H',Same H H'->Rt X.K H' (Ow G.pr E σ) d v->Q v H') G.xc) σ H Q:=by
 subst hm
 obtain⟨E,hr,f⟩:=h
 refine⟨E,hr,(Fin.bind f).mono λ dx fx v H1 s1 p1=>⟨E,hr.same s1,(Fin.bind fx).mono λ dy fy w H2 s2 p2=>?_⟩⟩
 obtain⟨d,e,p⟩:=Fin.of fy
 cases dy with
 | dic kvs =>
  simp only [Ae5,Option.map_eq_some_iff] at e
  obtain⟨ks,e1,rfl⟩:=e
  obtain⟨b,rfl,hb⟩:=K9 e1 (p1.mono s2 λ _ z=>z)
  obtain⟨a,ws,rfl,ha,rk⟩:=p2.dic
  obtain⟨o,g1,g2⟩:=Y7 rk ha hb
  refine⟨a,o,rfl,g1,?_⟩
  rw [g2]
  exact p _ H2 (s1.trans s2) (by unfold Rp;rfl)
 | _=>cases e
theorem Wg {m:EV}{mi mo:EV}(hm:m=e2 Gp mi mo) (σ:St) (H:Hp) (Q:VK) (h:RdF X G m σ H Q) :
  Xp (λ σ H Q=>∃ E,Rel X.K G E σ H/\Fin (mi E) (λ d=>∀ v H',Same H H'->Rt X.K H' (Ow G.pr E σ) d v->Q v H') G.xc) (λ σ H Q=>∃ E,Rel X.K G E σ H/\Fin (mo E) (λ d=>∀ v H',Same H H'->Rt X.K H' (Ow G.pr E σ) d v->Q v H') G.xc) σ H Q:=by
 subst hm
 obtain⟨E,hr,f⟩:=h
 refine⟨E,hr,(Fin.bind f).mono λ dx fx v H1 s1 p1=>⟨E,hr.same s1,(Fin.bind fx).mono λ dy fy w H2 s2 p2=>?_⟩⟩
 obtain⟨d,e,p⟩:=Fin.of fy
 cases dy with
 | dic kvs =>
  simp only [Gp,Option.map_eq_some_iff] at e
  obtain⟨ks,e1,rfl⟩:=e
  obtain⟨b,rfl,hb⟩:=K9 e1 (p1.mono s2 λ _ z=>z)
  obtain⟨a,ws,rfl,ha,rk⟩:=p2.dic
  obtain⟨o,g1,g2⟩:=Y7 rk ha hb
  refine⟨a,o,rfl,g1,?_⟩
  rw [g2]
  exact p _ H2 (s1.trans s2) (by unfold Rp;rfl)
 | _=>cases e
theorem Ajk (gd:Gd X) (ha:SE X G a ma) (hb:SE X G b mb) (hm:behindInMarks .In b=false:=by with_unfolding_all rfl):ST X G (.Compare a [.In] [b] pos) (Bh (e2 Ae5 ma mb)) :=
 (Y0 (Aiz (hu1 gd) ha hb) hm).imp λ σ H Q h=>Aey rfl σ H _ (RdF.test h)
theorem Ru (gd:Gd X) (ha:SE X G a ma) (hb:SE X G b mb) (hm:behindInMarks .NotIn b=false:=by with_unfolding_all rfl):ST X G (.Compare a [.NotIn] [b] pos) (Bh (e2 Gp ma mb)) :=
 (Y0 (Aal (hu1 gd) ha hb) hm).imp λ σ H Q h=>Wg rfl σ H _ (RdF.test h)
noncomputable def Apx:D->Option D
 | .int i=>some (.int (-i))
 | _=>none
noncomputable def eCh (f g:D->D->Option D) (ma mb mc:EV):EV:=λ E=>ma E >>= λ x=>mb E >>= λ y=>ofO (f x y) >>= λ t=>match t with
 | .bl true=>mc E >>= λ z=>ofO (g y z)
 | .bl false=>.ok (.bl false)
 | _=>.no
structure ChOk (X:Cx) (op:CmpOp) (r:R2) (f:D->D->Option D):Prop where
 o:OpR X (compareOp op) r
 d:OpD X.K r f
theorem Ap4:ChOk X .Lt (rI0 λ i j=>.bl (decide (i<j))) (λ x y=>match x,y with|.int i,.int j=>some (.bl (decide (i<j)))|_,_=>none):=⟨Afd,Lr (g:=λ i j=>.bl (decide (i<j))) (λ dx dy d e=>by
 cases dx with
 | int i=>cases dy with
  | int j=>cases e;exact⟨i,j,rfl,rfl,rfl⟩
  | _=>cases e
 | _=>cases e) λ i j H O=>by unfold Rp;rfl⟩
theorem Abp:ChOk X .LtE (rI0 λ i j=>.bl (decide (i<=j))) fLe:=⟨Al9,Al7⟩
noncomputable def Adj:D->D->Option D
 | .int i,.int j=>some (.bl (decide (i<j)))
 | _,_=>none
theorem T9:ChOk X .Lt (rI0 λ i j=>.bl (decide (i<j))) Adj:=⟨Afd,Lr (g:=λ i j=>.bl (decide (i<j))) (λ dx dy d e=>by
 cases dx with
 | int i=>cases dy with
  | int j=>cases e;exact⟨i,j,rfl,rfl,rfl⟩
  | _=>cases e
 | _=>cases e) λ i j H O=>by unfold Rp;rfl⟩
theorem Ado {r r':R2}{f g:D->D->Option D}(hf:OpD X.K r f) (hg:OpD X.K r' g) (σ:St) (H:Hp) (Q:VK) (h:RdF X G (eCh f g ma mb mc) σ H Q) :
  Xf r r' (λ σ H Q=>∃ E,Rel X.K G E σ H/\Fin (ma E) (λ d=>∀ v H',Same H H'->Rt X.K H' (Ow G.pr E σ) d v->Q v H') G.xc)
   (λ σ H Q=>∃ E,Rel X.K G E σ H/\Fin (mb E) (λ d=>∀ v H',Same H H'->Rt X.K H' (Ow G.pr E σ) d v->Q v H') G.xc)
   (λ σ H Q=>∃ E,Rel X.K G E σ H/\Fin (mc E) (λ d=>∀ v H',Same H H'->Rt X.K H' (Ow G.pr E σ) d v->Q v H') G.xc) σ H Q:=by
 obtain⟨E,hr,f0⟩:=h
 refine⟨E,hr,(Fin.bind f0).mono λ dx fx v H1 s1 p1=>⟨E,hr.same s1,(Fin.bind fx).mono λ dy fy w H2 s2 p2=>?_⟩⟩
 have ft:=Fin.bind fy
 obtain⟨d,e,p⟩:=Fin.of ft
 refine hf H2 _ dx dy d v w _ (hr.same (s1.trans s2)).sane e (Oj p1 s2) p2 λ u H3 s3 z=>?_
 cases d with
 | bl k =>
  cases k with
  | false=>exact⟨false,z,p _ H3 ((s1.trans s2).trans s3) (by unfold Rp;rfl)⟩
  | true =>
   refine⟨true,z,?_⟩
   rw [if_pos rfl]
   refine⟨E,(hr.same ((s1.trans s2).trans s3)),(Fin.bind p).mono λ dz fz w' H4 s4 p4=>?_⟩
   obtain⟨d',e',p'⟩:=Fin.of fz
   exact hg H4 _ dy dz d' w w' Q (hr.same (((s1.trans s2).trans s3).trans s4)).sane e' (Oj (Oj p2 s3) s4) p4 λ u' H5 s5 z'=>p' u' H5 ((((s1.trans s2).trans s3).trans s4).trans s5) z'
 | _=>exact p.elim
theorem Ah8 {op op':CmpOp}{r r':R2}{f g:D->D->Option D}(h1:ChOk X op r f) (h2:ChOk X op' r' g) (ha:SE X G a ma) (hb:SE X G b mb) (hc:SE X G c mc) (hm:lastMarks [op,op'] [b,c]=false:=by with_unfolding_all rfl) :
  SF X G (.Compare a [op,op'] [b,c] pos) (eCh f g ma mb mc):=(Acn h1.o h2.o ha hb hc hm).imp λ σ H Q h=>Ado h1.d h2.d σ H Q h
theorem Ahm {op op':CmpOp}{r r':R2}{f g:D->D->Option D}(h1:ChOk X op r f) (h2:ChOk X op' r' g) (ha:SE X G a ma) (hb:SE X G b mb) (hc:SE X G c mc) (hm:lastMarks [op,op'] [b,c]=false:=by with_unfolding_all rfl) :
  ST X G (.Compare a [op,op'] [b,c] pos) (Bh (eCh f g ma mb mc)):=(Aci h1.o h2.o ha hb hc hm).imp λ σ H Q h=>Ado h1.d h2.d σ H _ (RdF.test h)
noncomputable def Aj3:D->Option D
 | .non=>some (.bl true)
 | .bl _=>some (.bl false)
 | .int _=>some (.bl false)
 | .str _=>some (.bl false)
 | .tup _=>some (.bl false)
 | .lst _=>some (.bl false)
 | .dic _=>some (.bl false)
 | .scr _=>some (.bl false)
theorem Aho {K:PySem.W.Frag}{H:Hp}{O:Addr->Prop}{d d':D}{v:V}(e:Aj3 d=some d') (r:Rt K H O d v):d'=.bl (decide (v=.non)):=by
 cases d with
 | non=>cases e;rw [r.non];rfl
 | bl b=>cases e;rw [r.bl];rfl
 | int b=>cases e;rw [r.int];rfl
 | str b=>cases e;rw [r.str];rfl
 | tup ds=>cases e;obtain⟨a,vs,rfl,_⟩:=r.tup;rfl
 | lst ds=>cases e;obtain⟨a,vs,rfl,_⟩:=r.lst;rfl
 | dic ds=>cases e;obtain⟨a,vs,rfl,_⟩:=r.dic;rfl
 | scr ns =>
  cases e
  rcases r with r|⟨_,_,h⟩
  ·obtain⟨a,rfl,_⟩:=r.scr;rfl
  ·exact h.elim
theorem Age (σ:St) (H:Hp) (Q:VK) (h:RdF X G (e1 Aj3 ma) σ H Q):Apg (λ σ H Q=>∃ E,Rel X.K G E σ H/\Fin (ma E) (λ d=>∀ v H',Same H H'->Rt X.K H' (Ow G.pr E σ) d v->Q v H') G.xc) σ H Q:=by
 obtain⟨E,hr,f⟩:=h
 refine⟨E,hr,(Fin.bind f).mono λ d p v H' s z=>?_⟩
 obtain⟨e,h1,q⟩:=Fin.of p
 have:=Aho h1 z
 subst this
 exact q _ H' s (by unfold Rp;rfl)
theorem Ah2 {j pos'}(ha:SE X G a ma):ST X G (.Compare a [.Is] [.Constant .none j pos'] pos) (Bh (e1 Aj3 ma)):=(Y0 (Ain ha)).imp λ σ H Q h=>Age σ H _ (RdF.test h)
end

section
variable {X:Cx}{G:Fc}{e:Expr}{m:EV}
noncomputable def flat:D->R D
 | .non=>.ok .non
 | .bl b=>.ok (.bl b)
 | .int i=>.ok (.int i)
 | .str s=>.ok (.str s)
 | _=>.no
noncomputable def Aiy (i:Nat) (m:EV):EV:=λ E=>m (frz i E) >>= flat
end

section
variable {X:Cx}{G:Fc}{r:List V->Hp->VK->Prop}{f:D->D->Option D}{x:Str}{p pos:Pos}{a b:Expr}{ma mb:EV}
noncomputable def Ar7:D->D->Option D
 | .int i,.int j=>some (.int (if j > i then j else i))
 | _,_=>none
noncomputable def Aru:D->D->Option D
 | .int i,.int j=>some (.int (if j<i then j else i))
 | _,_=>none
end
section
variable {X:Cx}{G:Fc}{p pos:Pos}{e:Expr}{m:EV}
theorem Ij (hg:Gl X "len") (hm:X.mg "len"=none) (he:SE X G e m) (hs:starEach [e] X.env=(false,eval e X.env) :: starEach [] X.env:=by rfl) (hpl:(backTo pos (starEach [] X.env)).any (·.1)=false:=by rfl):SF X G (.Call (.Name "len" p) [e] [] pos) (e1 Hf m) :=
 Oq U0 Aij hg hm PySem.boot_len he (hs:=hs) (hpl:=hpl)
theorem Ad1 (gd:Gd X) (hg:Gl X "all") (hm:X.mg "all"=none) (he:SE X G e m) (hs:starEach [e] X.env=(false,eval e X.env) :: starEach [] X.env:=by rfl) (hpl:(backTo pos (starEach [] X.env)).any (·.1)=false:=by rfl):SF X G (.Call (.Name "all" p) [e] [] pos) (e1 Ae8 m) :=
 Oq (X5 gd.calm) Aj1 hg hm (by decide +kernel) he (hs:=hs) (hpl:=hpl)
theorem Ai7 (gd:Gd X) (hg:Gl X "any") (hm:X.mg "any"=none) (he:SE X G e m) (hs:starEach [e] X.env=(false,eval e X.env) :: starEach [] X.env:=by rfl) (hpl:(backTo pos (starEach [] X.env)).any (·.1)=false:=by rfl):SF X G (.Call (.Name "any" p) [e] [] pos) (e1 Agz m) :=
 Oq (Xl gd.calm) Ahh hg hm (by decide +kernel) he (hs:=hs) (hpl:=hpl)
theorem Abj (hg:Gl X "int") (hm:X.mg "int"=none) (he:SE X G e m) (hs:starEach [e] X.env=(false,eval e X.env) :: starEach [] X.env:=by rfl) (hpl:(backTo pos (starEach [] X.env)).any (·.1)=false:=by rfl) :
  SF X G (.Call (.Name "int" p) [e] [] pos) (e1 (λ d=>match d with|.int i=>some (.int i)|.bl b=>some (.int (if b then 1 else 0))|_=>none) m) :=
 Abu Q9 (λ H O dx d v Q fr e rx q=>by
  cases dx with
  | int i=>cases e;exact .inl ⟨i,by rw [rx.int],q _ H (Same.refl _) (by unfold Rp;rfl)⟩
  | bl i=>cases e;exact .inr ⟨i,by rw [rx.bl],q _ H (Same.refl _) (by unfold Rp;rfl)⟩
  | _=>cases e) hg hm (by decide +kernel) he (hs:=hs) (hpl:=hpl)
end

inductive Ty where
 | bool|int|list|tuple|str
noncomputable def Ty.nm:Ty->String
 | .bool=>"bool" | .int=>"int" | .list=>"list" | .tuple=>"tuple" | .str=>"str"
noncomputable def Z8:Ty->D->Option D
 | .bool,.bl _=>some (.bl true)
 | .int,.bl _=>some (.bl true)
 | .int,.int _=>some (.bl true)
 | .list,.lst _=>some (.bl true)
 | .tuple,.tup _=>some (.bl true)
 | .str,.str _=>some (.bl true)
 | _,.non=>some (.bl false)
 | _,.bl _=>some (.bl false)
 | _,.int _=>some (.bl false)
 | _,.str _=>some (.bl false)
 | _,.tup _=>some (.bl false)
 | _,.lst _=>some (.bl false)
 | _,_=>none
end M

set_option Elab.async false
set_option linter.all false
set_option maxRecDepth 100000
namespace M
open PySem PySem.Spec PyProof.Rows L2
section
variable {X:Cx}{G:Fc}{p p2 pos:Pos}{e:Expr}{m:EV}
theorem Alh {K:PySem.W.Frag}{H:Hp}{O:Addr->Prop}{t:Ty}{d d':D}{v:V}(e:Z8 t d=some d') (r:Rt K H O d v):∃ tv b,d'=.bl b/\TyOf K H v tv/\PySem.W.kitOne K tv (.type t.nm)=some b:=by
 cases d with
 | non=>rw [r.non];cases t<;>(cases e;exact⟨_,_,rfl,.non,rfl⟩)
 | bl b=>rw [r.bl];cases t<;>(cases e;exact⟨_,_,rfl,.bl _,rfl⟩)
 | int b=>rw [r.int];cases t<;>(cases e;exact⟨_,_,rfl,.int _,rfl⟩)
 | str b=>rw [r.str];cases t<;>(cases e;exact⟨_,_,rfl,.str _,rfl⟩)
 | tup ds=>obtain⟨a,vs,rfl,h1,_⟩:=r.tup;cases t<;>(cases e;exact⟨_,_,rfl,.tup h1,rfl⟩)
 | lst ds=>obtain⟨a,vs,rfl,h1,_⟩:=r.lst;cases t<;>(cases e;exact⟨_,_,rfl,.lst h1,rfl⟩)
 | dic ds=>cases t<;>cases e
 | scr ds=>cases t<;>cases e
noncomputable def Ar3 (K:PySem.W.Frag):List V->Hp->VK->Prop:=λ xs H Q=>∃ x T tv b,xs=[x,.ty T]/\TyOf K H x tv/\PySem.W.kitOne K tv (.type T)=some b/\Q (.bl b) H
theorem Acm:Fq X (.builtin "isinstance") (Ar3 X.K):=by
 intro pins s σ H xs us Q I r h
 obtain⟨x,T,tv,b,rfl,ty,e,q⟩:=h
 obtain⟨u,w',rfl,r1,r2⟩:=vals2 r
 cases r2
 exact W0 I r1 ty e λ tk=>⟨.bl b,H,I.tok _,rfl,q⟩
theorem Ve (t:Ty) {x:Str}(hg:Gl X "isinstance") (hm:X.mg "isinstance"=none) (hg2:Gl X x) (hm2:X.mg x=none) (he:SE X G e m) (hv2:bootBuiltins x=some (.type t.nm):=by decide +kernel) (hn2:x≠"__name__":=by decide) (hdb2:(x == ("__debug__":Str))=false:=by decide)
  (hs:starEach [e,.Name x p2] X.env=(false,eval e X.env) :: starEach [.Name x p2] X.env:=by rfl) (hs2:starEach [.Name x p2] X.env=(false,eval (.Name x p2) X.env) :: starEach [] X.env:=by rfl) (hpl:(backTo pos (starEach [.Name x p2] X.env)).any (·.1)=false:=by rfl) :
  SF X G (.Call (.Name "isinstance" p) [e,.Name x p2] [] pos) (e1 (Z8 t) m) :=
 (J2 Acm hg hm (by decide +kernel) (Br he (Br (Yh (v:=.ty t.nm) hg2 hm2 hv2 rfl hn2 hdb2) Ea hs2) hs) (he:=hs) (hpl:=hpl)).imp λ σ H Q z0=>z0.elim λ E z0=>z0.elim λ hr h=>⟨E,hr,(Fin.bind h).mono λ dx fx v H1 s1 p1=>by
  obtain⟨d,e,q⟩:=Fin.of fx
  obtain⟨tv,b,rfl,ty,ek⟩:=Alh e p1
  exact⟨v,t.nm,tv,b,rfl,ty,ek,q _ H1 s1 (by unfold Rp;rfl)⟩⟩
end
end M

set_option Elab.async false
set_option linter.all false
set_option maxRecDepth 100000
namespace M
open PySem PySem.Spec PyProof.Rows L2
structure Dfn (K:PySem.W.Frag) (mg:Str->Option Value) (x:Str) (st:Stmt) (f:Addr) (fd:FuncData):Prop where
 fn:Fun K x x st f fd
 mg:mg x=some (.ref f)
structure Cal (P:Program) (w:World) (K:PySem.W.Frag) (mg:Str->Option Value) (base:Heap) (x:Str) (ps:List Str) (k:Nat) (dn:List D->R D):Prop where
 ex:∃ (f:Addr) (fd:FuncData),mg x=some (.ref f)/\PySem.W.keepIn K (.ref f)=true/\Binds K fd ps []/\FnOk P w K mg base CX0 k f fd ps (spD K ps.length dn)
section
variable {P:Program}{w:World}{K:PySem.W.Frag}{mg:Str->Option Value}{base:Heap}{x qual:Str}{st:Stmt}{f:Addr}{fd:FuncData}{N ps:List Str}{k:Nat}{m:EX}
theorem Eb (F:Fun K x qual st f fd) (S:FnScope N ps (Ai st))
  (hb:∀ (cdv:Value) (A:Around) (outer:List Env) (s:Shared) (H:Hp) (E:XK),Room k (bx P w K mg base N qual (Ai st) f cdv A outer s H E).A->Gd (bx P w K mg base N qual (Ai st) f cdv A outer s H E)->∀ G:Fc,(∀ c,¬ G.xc c)->SB (bx P w K mg base N qual (Ai st) f cdv A outer s H E) G (Fg st) m) :
  FnOk P w K mg base CX0 (k+1) f fd ps (spD K ps.length (den N.length m)) :=
 F.ok S (λ vs H Q E h=>h.1) λ cdv A outer s H vs Q E hr ⟨hl,pr,ds,hp,rs,f⟩=>by
  have gd:Gd (bx P w K mg base N qual (Ai st) _ cdv A outer s H E):=⟨rfl,PassesOwn.never,S.nd,by have:=hr.units;exact Nat.lt_of_le_of_lt (Nat.add_le_add_left (by decide) _) this⟩
  refine⟨_,hb cdv A outer s H E hr gd ⟨H,pr,λ _=>False⟩ (λ _ h=>h),Jq N.length ds,Px hp rs,?_⟩
  refine (Fin.bind f).mono λ o p=>?_
  cases o with
  | rt d=>exact λ v H' s z=>p v H' s z
  | nx E'=>exact λ σ' H' r'=>p .non H' r'.base (by unfold Rp;rfl)
  | bk E'=>exact p.elim
  | ct E'=>exact p.elim
end
section
variable {X:Cx}{G:Fc}{k j:Nat}{ps:List Str}{dn:List D->R D}{x:Str}{p pos:Pos}{e:Expr}{es:List Expr}{ma:Ev->R (List D)}
theorem Dh (C:Cal X.prog X.w X.K X.mg X.base x ps k dn) (hx:∀ c,¬ G.xc c) (hr:Room j X.A) (hk:k<=j) (hg:Gl X x) (ha:SA X G (e :: es) ma) (hdb:(x == ("__debug__":Str))=false:=by decide) (he:starEach (e :: es) X.env=(false,eval e X.env) :: starEach es X.env:=by rfl) (hpl:(backTo pos (starEach es X.env)).any (·.1)=false:=by rfl) :
  SF X G (.Call (.Name x p) (e :: es) [] pos) (Bj ps.length dn ma):=by
 obtain⟨f,fd,hm,hk',hb,F⟩:=C.ex
 exact Ad6 F hx (hr.mono hk) hg hm hk' hb ha hdb he hpl
end
theorem Ue (i:Nat):∀ d E E',gN i d E=some E'->clr [i] E'=clr [i] E:=λ d E E' h=>by
 unfold gN at h
 cases h
 show (E.set i (.fz d)).set i .un=E.set i .un
 rw [List.set_set]
theorem Ac9 (i j:Nat):∀ d E E',gT i j d E=some E'->clr [i,j] E'=clr [i,j] E:=λ d E E' h=>by
 unfold gT at h
 split at h
 ·cases h
  rename_i a b
  show (((((E.set i (.fz a)).set j (.fz b)).set i .un).set j .un))=((E.set i .un).set j .un)
  by_cases e:i=j
  ·subst e;simp
  ·rw [List.set_comm _ _ (Ne.symm e),List.set_set]
   rw [List.set_comm (l:=E) _ _ e]
   simp [List.set_set]
   rw [List.set_comm _ _ (Ne.symm e)]
 ·cases h
end M

set_option Elab.async false
set_option linter.all false
set_option maxRecDepth 100000
namespace M
open PySem PySem.Spec PyProof.Rows L2
section
variable {X:Cx}{pins:List (Addr × Obj)}{σ:St}{H:Hp}{s:Shared}{a b:Addr}{kvs:List (List Key × V)}{k:List Key}{v:V}{r:Value}{A:Around}{E:Value->Shared->Prop}
end
section
variable {X:Cx}{pos:Pos}{k v:Expr}{tk tv:TE}
end
noncomputable def Ab0:D->Bool
 | .non=>true|.bl _=>true|.int _=>true|.str _=>true
 | _=>false
noncomputable def eD1 (mk mv:EV):EV:=λ E=>mk E >>= λ k=>mv E >>= λ v=>match keyOf k with
 | some ks=>if Ab0 v=true then .ok (.dic [(ks,v)]) else .no
 | none=>.no
section
variable {X:Cx}{G:Fc}{pos:Pos}{k v:Expr}{mk mv:EV}
end
end M

set_option Elab.async false
set_option linter.all false
set_option maxRecDepth 100000
namespace PySem
open Sem (wp)
end PySem

set_option Elab.async false
set_option linter.all false
set_option maxRecDepth 100000
namespace PySem.F
end PySem.F
namespace M
open PySem PySem.Spec PyProof.Rows L2
section
variable {X:Cx}{pins:List (Addr × Obj)}{σ:St}
end
end M

set_option Elab.async false
set_option linter.all false
set_option maxRecDepth 100000
namespace M
open PySem PySem.Spec PyProof.Rows L2
noncomputable def Ama:D->Option (List Int × D)
 | .tup [k,v]=>(keyOf k).map λ ks=>(ks,v)
 | _=>none
noncomputable def Adk:List D->Option (List (List Int × D))
 | []=>some []
 | d :: r=>(Ama d).bind λ p=>(Adk r).map λ ps=>p :: ps
noncomputable def Alk (kvs:List (List Int × D)) (more:List (List Int × D)):List (List Int × D):=more.foldl (λ acc kv=>dput acc kv.1 kv.2) kvs
noncomputable def Aqf:D->Option D
 | .lst ds=>if ds.length<=1000000 then (Adk ds).map λ ps=>.dic (Alk [] ps) else none
 | _=>none
section
variable {K:PySem.W.Frag}{H:Hp}{O:Addr->Prop}
end
section
variable {X:Cx}{G:Fc}{p pos:Pos}{e:Expr}{m:EV}
end
end M

set_option Elab.async false
set_option linter.all false
set_option maxRecDepth 100000
namespace M
open PySem PySem.Spec PyProof.Rows L2
theorem Ng {N:List Str}{sc:Scope}{ts:List Nat}(h:((List.range N.length).all λ i=>ts.contains i || !(sc.names.lookup (N.getD i Str.empty) == some NameKind.local))=true):∀ (i:Nat) x,N[i]?=some x->sc.names.lookup x=some .local->i∈ts:=λ i x hi hl=>by
 have hlt:i<N.length:=(List.getElem?_eq_some_iff.mp hi).1
 have:=List.all_eq_true.mp h i (by simpa using hlt)
 rw [List.getD_eq_getElem?_getD,hi] at this
 simp only [Option.getD_some,hl] at this
 have e:(some NameKind.local == some NameKind.local)=true:=rfl
 rw [e] at this
 simpa using this
noncomputable def Ql (X:Cx):List (Str × NameKind)->Prop
 | []=>True
 | y :: r=>(y.2=.free->X.env.kindOf y.1=some .cell\/X.env.kindOf y.1=some .free)/\Ql X r
theorem Ql.all {X:Cx}:∀ {l:List (Str × NameKind)},Ql X l->∀ y∈l,y.2=.free->X.env.kindOf y.1=some .cell\/X.env.kindOf y.1=some .free
 | [],_,y,hy,_=>by simp at hy
 | z :: r,h,y,hy,hf=>by
  rcases List.mem_cons.mp hy with e|e
  ·subst e;exact h.1 hf
  ·exact Ql.all h.2 y e hf
theorem Wd {X:Cx}{sc:Scope}(h1:sc.kind=.function) (h2:(sc.names.all λ y=>!(y.2 == NameKind.cell))=true) (h3:(sc.names.all λ y=>sc.names.lookup y.1 == some y.2)=true) (h4:Ql X sc.names):CScope X sc where
 kind:=h1
 nocell:=λ y hy e=>by
  have:=List.all_eq_true.mp h2 y hy
  rw [e] at this
  exact absurd this (by decide)
 names:=λ y hy=>by
  have:=List.all_eq_true.mp h3 y hy
  cases q:sc.names.lookup y.1 with
  | none=>rw [q] at this;cases z:y.2<;>(rw [z] at this;exact absurd this (by decide))
  | some k =>
   rw [q] at this
   cases z:y.2<;>cases k<;>first|rfl|(rw [z] at this;exact absurd this (by decide))
 free:=h4.all
noncomputable def Amh:D->Option D
 | .int i=>some (.int i)
 | .bl b=>some (.int (if b then 1 else 0))
 | _=>none
theorem Jm {X:Cx}{G:Fc}{x:Str}{i:Int}{pos:Pos}(h:∃ t,X.mg x=some (.int i t)) (hg:Gl X x) (hd:(x == ("__debug__":Str))=false:=by decide):SF X G (.Name x pos) (kE (.int i)):=by
 obtain⟨t,h⟩:=h
 exact Afl hg h ⟨t,rfl⟩ hd
end M

set_option Elab.async false
set_option linter.all false
set_option maxRecDepth 100000
namespace M
open PySem PySem.Spec PyProof.Rows L2
structure Ent (K:PySem.W.Frag) (x:Str) (st:Stmt) (f:Addr):Prop where
 a:PySem.W.nsIn K mainGlobals x=some (some (.ref f))
 l:∃ fd,Fun K x x st f fd
theorem Ajc {K:PySem.W.Frag}{x:Str}{st:Stmt}{f:Addr}{oc:Value}{od an:Option Addr}{sl:Array (Option Value)}{kV dc pm cd ct:Value}(a:PySem.W.nsIn K mainGlobals x=some (some (.ref f)))
  (l:K.lookup f=some ⟨oc,od,.func (PySem.W.fnOf x x (Hz st) (Fg st) (Ai st) .none kV dc pm an cd ct),sl⟩) (c:PySem.W.codeIn K cd x=true) (k:PySem.W.keepIn K (.ref f)=true):Ent K x st f:=⟨a,_,Ajf l c k⟩
theorem ent_ex {K:PySem.W.Frag}{h:Heap}{x:Str}{st:Stmt}{f:Addr}{oc:Value}{od an:Option Addr}{sl:Array (Option Value)}{kV dc pm cd ct:Value}(_:K.In h) (a:PySem.W.nsIn K mainGlobals x=some (some (.ref f)))
  (l:K.lookup f=some ⟨oc,od,.func (PySem.W.fnOf x x (Hz st) (Fg st) (Ai st) .none kV dc pm an cd ct),sl⟩) (c:PySem.W.codeIn K cd x=true) (k:PySem.W.keepIn K (.ref f)=true):∃ f,Ent K x st f:=⟨f,Ajc a l c k⟩
theorem int_ex {K:PySem.W.Frag}{h:Heap}{x:Str}{i:Int}{t:Tok}(_:K.In h) (a:PySem.W.nsIn K mainGlobals x=some (some (.int i t))):∃ t,PySem.W.nsIn K mainGlobals x=some (some (.int i t)):=⟨t,a⟩
theorem Ent.dfn {K:PySem.W.Frag}{h:Heap}{mg:Str->Option Value}{x:Str}{st:Stmt}{f:Addr}(e:Ent K x st f) (X:K.In h) (G:h.Ns mainGlobals mg):∃ fd,Dfn K mg x st f fd:=by
 obtain⟨fd,F⟩:=e.l
 exact⟨fd,F,PySem.W.mg_of X G e.a⟩
theorem Ajx {dn:List D->R D}{K:PySem.W.Frag}{H:Hp}{a:Addr}{ns:List Int}(hl:ns.length<=63) (hS:SqL K H a (ns.map V.int)) (h:∀ ns:List Int,ns.length<=63->dn [.scr ns]=.ok (.bl true)):spD K 1 dn [.ref a] H (λ v _=>v=.bl true) λ _ _ _=>False:=by
 refine⟨rfl,λ _=>False,[.scr ns],λ _ h=>h.elim,Rps.cons ?_ Rps.nil,?_⟩
 ·unfold Rp
  refine⟨a,rfl,?_⟩
  rcases hS with h|h
  ·exact .inl ⟨id,h⟩
  ·exact .inr (.inr h)
 ·rw [h ns hl]
  exact λ v H' _ r=>by unfold Rp at r;exact r
theorem Af6 {P:Program}{w:World}{K:PySem.W.Frag}{mg:Str->Option Value}{fa:Addr}{k:Nat}{dn:List D->R D}{st:Stmt}{f:Addr}{fd:FuncData}(hfa:mg "law"=some (.ref fa)) (Dn:Dfn K mg "law" st f fd)
  (hb:∀ (s:Shared) (v:Value),BindsTo s fd ⟨[v],[]⟩ [("script",v)])
  (h:∀ base:Heap,FnOk P w K mg base CX0 k f fd ["script"] (spD K 1 dn)) :
  ∃ fd:FuncData,(∀ (s:Shared) (v:Value),BindsTo s fd ⟨[v],[]⟩ [("script",v)])/\∀ base:Heap,K.In base->base.Ns mainGlobals mg->FnOk P w K mg base CX0 k fa fd ["script"] (spD K 1 dn):=by
 have e:=hfa.symm.trans Dn.mg
 cases e
 exact⟨fd,hb,λ base _ _=>h base⟩
theorem Fun.one {K:PySem.W.Frag}{x qual:Str}{st:Stmt}{f:Addr}{fd:FuncData}{p:Str}(F:Fun K x qual st f fd)
  (h:∀ (kV doc pm:Value) (an:Option Addr) (cdv ct u:Value),bindArgs (PySem.W.fnOf x qual (Hz st) (Fg st) (Ai st) .none kV doc pm an cdv ct) ⟨[u],[]⟩=pure [(p,u)]) (s:Shared) (v:Value):BindsTo s fd ⟨[v],[]⟩ [(p,v)]:=by
 obtain⟨oc,od,kV,doc,pm,an,cdv,ct,osl,rfl,lk,hcd⟩:=F.ex
 exact .of_eq (h kV doc pm an cdv ct v)
end M

set_option Elab.async false
set_option linter.all false
set_option maxRecDepth 100000
namespace M
open PySem PySem.W PySem.Spec PyProof.Rows L2
noncomputable def dTup:D->Option (List Int)
 | .tup ds=>(Fj ds).bind λ ns=>if ns.isEmpty then none else some ns
 | _=>none
noncomputable def Mq:List D->Option (List (List Int))
 | []=>some []
 | d :: r=>(dTup d).bind λ p=>(Mq r).map λ ps=>p :: ps
noncomputable def kT (k:List Int):D:=.tup (k.map D.int)
noncomputable def Zw:D->Option D
 | .lst ds=>(Mq ds).bind λ ks=>if ks.length<67 then some (.lst ((Gk ks).map kT)) else none
 | _=>none
section
variable {K:PySem.W.Frag}{H:Hp}{O:Addr->Prop}
theorem Aim {d:D}{v:V}{k:List Int}(e:dTup d=some k) (r:Rp K H O d v):TupAt H v k/\k≠[]/\∀ a,v=.ref a->¬ O a:=by
 cases d with
 | tup ds =>
  simp only [dTup,Option.bind_eq_some_iff] at e
  obtain⟨ns,e1,e2⟩:=e
  have hd:=Gz e1
  subst hd
  unfold Rp at r
  obtain⟨a,vs,rfl,no,ha,rs⟩:=r
  have hv:=rs.ints
  subst hv
  split at e2
  ·cases e2
  ·rename_i he
   cases e2
   exact⟨⟨a,rfl,ha⟩,by intro z;subst z;simp at he,λ b hb=>by cases hb;exact no⟩
 | _=>cases e
theorem Zz:∀ {ds:List D}{vs:List V}{ks:List (List Int)},Mq ds=some ks->Rps K H O ds vs->Paired (TupAt H) vs ks/\(∀ k∈ks,k≠[])/\∀ v∈vs,∀ a,v=.ref a->¬ O a
 | [],vs,ks,e,r=>by
  unfold Rps at r;subst r
  cases e
  exact⟨.nil,by simp,by simp⟩
 | d :: ds,vs,ks,e,r=>by
  unfold Rps at r
  obtain⟨v,vr,rfl,p,rs⟩:=r
  unfold Mq at e
  rw [Option.bind_eq_some_iff] at e
  obtain⟨q,e1,e2⟩:=e
  rw [Option.map_eq_some_iff] at e2
  obtain⟨qs,e3,rfl⟩:=e2
  obtain⟨h1,h2,h3⟩:=Aim e1 p
  obtain⟨h4,h5,h6⟩:=Zz e3 rs
  refine⟨.cons h1 h4,λ k hk=>?_,λ u hu=>?_⟩
  ·rcases List.mem_cons.mp hk with e|e
   ·rw [e];exact h2
   ·exact h5 k e
  ·rcases List.mem_cons.mp hu with e|e
   ·rw [e];exact h3
   ·exact h6 u e
theorem Pg:∀ {vs:List V}{ks:List (List Int)},Paired (TupAt H) vs ks->(∀ v∈vs,∀ a,v=.ref a->¬ O a)->Rps K H O (ks.map kT) vs
 | _,_,.nil,_=>Rps.nil
 | _,_,.cons (a:=v) (b:=k) h t,hn=>by
  rw [List.map_cons]
  refine Rps.cons ?_ (Pg t λ u hu=>hn u (List.mem_cons_of_mem _ hu))
  obtain⟨a,rfl,ha⟩:=h
  unfold kT Rp
  exact⟨a,_,rfl,hn _ (by simp) a rfl,ha,Hr _⟩
theorem Aft:Aiw K (Xz K) Zw:=λ H O dx d v Q fr e rx q=>by
 cases dx with
 | lst ds =>
  simp only [Zw,Option.bind_eq_some_iff] at e
  obtain⟨ks,e1,e2⟩:=e
  split at e2
  ·rename_i hl
   cases e2
   obtain⟨a,vs,rfl,h1,r1⟩:=rx.lst
   obtain⟨p1,p2,p3⟩:=Zz e1 r1
   refine⟨a,vs,ks,rfl,SqL.of h1,p1,p2,hl,λ l outs hl ho po=>q l _ (Ar hl) hl ⟨_,Aq,?_⟩⟩
   exact ((Pg (K:=K) po λ u hu=>p3 u (ho u hu)).fresh hl).mono (Ar hl) λ _ z=>z
  ·cases e2
 | _=>cases e
end
section
variable {X:Cx}{G:Fc}{p pos:Pos}{e:Expr}{m:EV}
theorem Aga (gd:Gd X) (hg:Gl X "sorted") (hm:X.mg "sorted"=none) (he:SE X G e m) (hs:starEach [e] X.env=(false,eval e X.env) :: starEach [] X.env:=by rfl) (hpl:(backTo pos (starEach [] X.env)).any (·.1)=false:=by rfl):SN X G (.Call (.Name "sorted" p) [e] [] pos) (e1 Zw m) :=
 Acl Tv Aft hg hm (by decide +kernel) he (hs:=hs) (hpl:=hpl)
end
section
variable {X:Cx}
end
noncomputable def Am4:D->Option D
 | .dic kvs=>if (kvs.all λ kv=>!kv.1.isEmpty)=true/\kvs.length<67 then some (.lst ((Gk (kvs.map (·.1))).map kT)) else none
 | _=>none
section
variable {K:PySem.W.Frag}{H:Hp}{O:Addr->Prop}
end
section
variable {X:Cx}{G:Fc}{p pos:Pos}{e:Expr}{m:EV}
end
end M

set_option Elab.async false
set_option linter.all false
set_option maxRecDepth 100000
namespace M
open PySem PySem.Spec PyProof.Rows L2
noncomputable def Aq9 (i:Nat):EX:=λ E=>match E[i]? with
 | some (.ow d)=>.ok (.rt d)
 | _=>.no
section
variable {X:Cx}{G:Fc}{st:Stmt}{rest:List Stmt}{m n:EX}{e:Expr}{me:EV}{pos:Pos}
noncomputable def spN (K:PySem.W.Frag) (n:Nat) (den:List D->R D):Sp:=λ vs H Q _=>vs.length=n/\∃ (pr:Addr->Prop) (ds:List D),(∀ a,pr a->∃ o,H a=some o/\Ji o)/\Rps K H pr ds vs/\Fin (den ds) (λ d=>∀ a H',Same H H'->H a=none->Own K H' (λ b=>pr b\/b=a) d a->Q (.ref a) H') λ _=>False
structure CalN (P:Program) (w:World) (K:PySem.W.Frag) (mg:Str->Option Value) (base:Heap) (x:Str) (ps:List Str) (k:Nat) (dn:List D->R D):Prop where
 ex:∃ (f:Addr) (fd:FuncData),mg x=some (.ref f)/\PySem.W.keepIn K (.ref f)=true/\Binds K fd ps []/\FnOk P w K mg base CX0 k f fd ps (spN K ps.length dn)
end
section
variable {P:Program}{w:World}{K:PySem.W.Frag}{mg:Str->Option Value}{base:Heap}{x qual:Str}{st:Stmt}{f:Addr}{fd:FuncData}{N ps:List Str}{k:Nat}{m:EX}
end
section
variable {X:Cx}{G:Fc}{k j:Nat}{ps:List Str}{dn:List D->R D}{x:Str}{p pos:Pos}{e:Expr}{es:List Expr}{ma:Ev->R (List D)}
end
end M

set_option Elab.async false
set_option linter.all false
set_option maxRecDepth 100000
namespace M
open PySem PySem.W PySem.Spec PyProof.Rows L2
theorem Sx {X:Cx}{pins:List (Addr × Obj)}{σ:St}{H:Hp}{s:Shared}{a:Addr}{o:Obj}{kvs:List (List Key × V)}(I:Inv X pins σ H s) (h:H a=some (.frz o (.dT kvs))) :
  s.heap.get? a=some o/\o.ExactDict/\∃ es ep,o.data=.dict es ep/\es.size=kvs.length/\∀ (i:Nat) (e:DictEntry),es[i]?=some e->∃ k v b,kvs[i]?=some (k,v)/\e.key=.ref b/\RelV v e.val/\H b=some (.tup (k.map kV)):=by
 obtain⟨g,z,y,xs,r,o',es,ep,h1,h2,h3,h4,h5⟩:=(show Cp X.prog X.w H s.heap a (.frz o (.dT kvs)) from I.hok a _ h)
 rw [g] at h1;cases h1
 have l:es.size=kvs.length:=by
  have:=congrArg List.length h4
  simp only [Array.length_toList,List.length_map] at this
  rw [this];exact (Paired.length r).symm
 refine⟨g,h2,es,ep,h3,l,λ i e he=>?_⟩
 have he':es.toList[i]?=some e:=by simpa using he
 rw [h4,List.getElem?_map] at he'
 cases q:xs[i]? with
 | none=>rw [q] at he';cases he'
 | some p =>
  rw [q] at he'
  cases he'
  have hi:i<kvs.length:=by rw [<-l];exact (Array.getElem?_eq_some_iff.mp he).1
  obtain⟨p',e1,e2,e3,e4⟩:=Fp r i kvs[i] (by simp [hi])
  rw [q] at e1;cases e1
  exact⟨kvs[i].1,kvs[i].2,p.2.1,by simp [hi],rfl,e4,e3⟩
section
variable {X:Cx}{G:Fc}{tg iter:Expr}
theorem Rpk.at {K:PySem.W.Frag}{H:Hp}{O:Addr->Prop}:∀ {kvs:List (List Int × D)}{ws:List (List Key × V)}{i:Nat}{kd:List Int × D},Rpk K H O kvs ws->kvs[i]?=some kd->∃ v,ws[i]?=some (kd.1.map Sum.inl,v)/\Rp K H O kd.2 v
 | [],_,_,_,_,e=>by simp at e
 | (k,d) :: r,ws,0,kd,h,e=>by
  unfold Rpk at h
  obtain⟨v,r',rfl,p,q⟩:=h
  simp at e;subst e
  unfold Rpq at p
  exact⟨v,rfl,p⟩
 | (k,d) :: r,ws,i+1,kd,h,e=>by
  unfold Rpk at h
  obtain⟨v,r',rfl,p,q⟩:=h
  simpa using Rpk.at q (by simpa using e)
theorem Aeq {K:PySem.W.Frag}{H:Hp}{O:Addr->Prop}{k:List Int}{b:Addr}(s:Sane H O) (h:H b=some (.tup ((k.map (Sum.inl:Int->Key)).map kV))):Rp K H O (kT k) (.ref b):=by
 unfold kT Rp
 refine⟨b,k.map V.int,rfl,s.tup h,?_,Hr _⟩
 rw [h,List.map_map];rfl
end
end M

set_option Elab.async false
set_option linter.all false
set_option maxRecDepth 100000
namespace M
open PySem PySem.W PySem.Spec PyProof.Rows L2
section
variable {prog:Program}{w:World}{A:Around}{E:Value->Shared->Prop}{s:Shared}{d it v:Addr}{es:Array DictEntry}{ep:Nat}
theorem X8 {Q:Value->Shared->Prop}(hd:(d == sysModules)=false) (x:Aaq s.heap d es ep) (q:Q (.ref s.heap.objs.size) { s with heap:=s.heap.push { cls:=.type "dict_items",data:=.fields #[.ref d] } }) :
  wpAny (model prog w) A (call (.builtin "dict.items") [.ref d]) Q E s:=by
 have hT:=x.type
 refine wpAny_call_entry F.slot_dict_items hT F.entry_dict_items ?_ (F.args_dict_items_1 _)
 unfold Builtin.«dict.items»
 refine wpAny_bind ?_
 unfold Builtin.Dict.noArgs
 refine wpAny_bind (wpAny_notOrdered_dict hT ?_)
 show wpAny _ _ (pure d) _ _ s
 refine wpAny_pure ?_
 show wpAny _ _ (Builtin.Dict.showsAll d >>= _) _ _ s
 unfold Builtin.Dict.showsAll
 rw [hd,if_neg Bool.false_ne_true]
 exact wpAny_bind (wpAny_pure (wpAny_bind (wpAny_newObj_type (wpAny_pure ⟨_,rfl,q⟩))))
theorem Xo {Q:Value->Shared->Prop}(hv:s.heap.IsItemsView v d) (x:Aaq s.heap d es ep)
  (hQ:Q (.ref s.heap.objs.size) { s with heap:=s.heap.push { cls:=.type "dict_itemiterator",data:=.fields #[.none,.bool false,.ref d,.int 0 0,.int es.size 0,.int ep 0,.none,.none] } }) :
  wpAny (model prog w) A (pyIter (.ref v)) Q E s:=by
 obtain⟨ov,hov,hcv,hdv⟩:=id hv
 obtain⟨o,ho,hc,hdat⟩:=id x
 refine wpAny_pyIter_slot hv.typeIs F.slot_dict_items_iter (wpAny_call_entry F.slot_dict_items_iter hv.typeIs F.entry_dict_items_iter ?_ (F.args_dict_items_iter_1 _))
 unfold Builtin.«dict_items.__iter__»
 refine wpAny_bind (wpAny_pure (wpAny_bind ?_))
 unfold Builtin.Dict_items.dictOf
 refine wpAny_bind (wpAny_field hov hdv (x:=.ref d) rfl (wpAny_pure (wpAny_bind ?_)))
 unfold Builtin.Dict_items.newIterator
 refine wpAny_bind (wpAny_dictEntries ho hdat (wpAny_bind (wpAny_dictEpoch ho hdat ?_)))
 simp only [show Builtin.Dict_items.ownsTuple "dict_itemiterator"=true by decide,if_true]
 refine wpAny_newObj_type (wpAny_pure ⟨_,rfl,"dict_itemiterator",_,⟨_,Heap.get?_push_size _ rfl,rfl⟩,F.slot_dict_itemiterator_next.lookup,?_⟩)
  (by simp only [sizeOk,Builtin.Dict_items.ownedTupleFields,List.size_toArray,List.length_append,List.length_cons,List.length_nil,sizeLine_eq];omega)
 simpa [rawInt,Builtin.Dict_items.ownedTupleFields] using hQ
theorem Xy {i:Nat}{e:DictEntry}{ok ov:Value}{Q:Option Value->Shared->Prop}(hit:IsItemIter s.heap it d i es.size ep ok ov) (x:Aaq s.heap d es ep) (hx:es[i]?=some e)
  (hQ:∀ h',IsItemIterOut h' it d (i+1) es.size ep e.key e.val s.heap.objs.size->h'.get? s.heap.objs.size=some { cls:=.type "tuple",data:=.seq #[e.key,e.val] } →
   (∀ b o,b≠it->s.heap.get? b=some o->h'.get? b=some o)->Q (some (.ref s.heap.objs.size)) { s with heap:=h' }):wpAny (model prog w) A (pyNext (.ref it)) Q E s:=by
 obtain⟨hp,g,dr,tk,os⟩:=s
 obtain⟨od,hod,hcd,hdd⟩:=x
 have hT:Shared.TypeIs ⟨hp,g,dr,tk,os⟩ (.ref it) "dict_itemiterator":=⟨_,hit,rfl⟩
 unfold pyNext
 refine wpAny_bind (wpAny_attempt (wpAny_callSpecial?_slot (name:=Str.ofString "__next__") hT F.slot_dict_itemiterator_next
  (wpAny_call_entry F.slot_dict_itemiterator_next hT F.entry_dict_itemiterator_next ?_ (F.args_dict_itemiterator_next_1 _))))
 refine wpAny_bind (wpAny_pure (wpAny_bind (wpAny_bind ?_)))
 first|refine wpAny_bind (wpAny_typeNameOfWhole_itemiter hT (wpAny_pure ?_))|refine wpAny_bind (wpAny_typeNameOf_itemiter hT (wpAny_pure ?_))
 refine wpAny_bind (wpAny_fieldsOf hit rfl ?_)
 simp only [show Builtin.Dict_items.ownsTuple "dict_itemiterator"=true by decide,if_true]
 show wpAny _ _ (if (Value.ref d == Value.none)=true then _ else _) _ _ _
 rw [if_neg (show ¬ ((Value.ref d == Value.none)=true) from Bool.false_ne_true)]
 refine wpAny_bind (wpAny_pure (wpAny_bind (wpAny_dictEntries hod hdd ?_)))
 rw [if_neg (by simp)]
 refine wpAny_bind (wpAny_pure (wpAny_bind (wpAny_dictEpoch hod hdd ?_)))
 rw [if_neg (by simp)]
 refine wpAny_pure ?_
 simp only [show ¬ ((i:Int)<0) from by omega,if_false,Int.toNat_natCast,hx]
 refine wpAny_bind ?_
 first|refine wpAny_bind (wpAny_typeNameOfWhole_itemiter hT (wpAny_pure ?_))|refine wpAny_bind (wpAny_typeNameOf_itemiter hT (wpAny_pure ?_))
 refine wpAny_bind (wpAny_isOneOf_itemiter hT ?_)
 show wpAny _ _ (setField (.ref it) 3 (rawInt ((i:Int)+1)) >>= _) _ _ ⟨hp,g,dr,tk,os⟩
 refine wpAny_bind (wpAny_setField_rec hit (by simp) λ h₁ he₁ hs₁=>?_)
 replace hs₁:Heap.SameBut it hp h₁:=hs₁
 replace he₁:IsItemIter h₁ it d (i+1) es.size ep ok ov:=by
  have e:((i+1:Nat):Int)=(i:Int)+1:=by omega
  unfold IsItemIter;rw [e];simpa [rawInt] using he₁
 have hT₁:Shared.TypeIs ⟨h₁,g,dr,tk,os⟩ (.ref it) "dict_itemiterator":=⟨_,he₁,rfl⟩
 refine wpAny_bind (wpAny_holding (wpAny_bind (wpAny_isOneOf_itemiter hT₁ (wpAny_bind (wpAny_isOneOf_itemiter hT₁ ?_)))))
 show wpAny _ _ (Builtin.Dict_items.pairFromOwner (.ref it) 6 e.key e.val) _ _ ⟨h₁,g,dr,tk,os⟩
 unfold Builtin.Dict_items.pairFromOwner
 refine wpAny_bind (wpAny_newTuple ?_)
 have he₂:IsItemIter (h₁.push { cls:=.type "tuple",data:=.seq #[e.key,e.val] }) it d (i+1) es.size ep ok ov:=Heap.get?_push_of_some _ he₁
 generalize hh₂:h₁.push { cls:=.type "tuple",data:=.seq #[e.key,e.val] }=h₂ at he₂
 have hz₁:h₁.objs.size=hp.objs.size:=hs₁.1
 have hil:it<hp.objs.size:=Heap.lt_size hit
 have ht₂:h₂.get? hp.objs.size=some { cls:=.type "tuple",data:=.seq #[e.key,e.val] }:=by rw [<-hh₂,<-hz₁];exact Heap.get?_push_size _ rfl
 have hk₂:∀ b o,b≠it->hp.get? b=some o->h₂.get? b=some o:=λ b o hb e=>by rw [<-hh₂];exact Heap.get?_push_of_some _ (hs₁.extBut b o hb e)
 show wpAny _ _ (Builtin.Dict_items.ownedTupleIsFree (.ref it) >>= _) _ _ ⟨h₂,g,dr,tk,os⟩
 rw [hz₁]
 clear hh₂ he₁ hs₁ hT₁ hz₁ h₁
 refine wpAny_bind ?_
 unfold Builtin.Dict_items.ownedTupleIsFree
 refine wpAny_bind (wpAny_field he₂ rfl (x:=.none) rfl (wpAny_pure ?_))
 simp only [if_true]
 refine wpAny_bind (wpAny_field he₂ rfl (x:=ok) rfl (wpAny_bind (wpAny_field he₂ rfl (x:=ov) rfl ?_)))
 refine wpAny_bind (wpAny_setField_rec he₂ (by simp) λ h₃ he₃ hs₃=>?_)
 replace hs₃:Heap.SameBut it h₂ h₃:=hs₃
 replace he₃:IsItemIter h₃ it d (i+1) es.size ep e.key ov:=he₃
 refine wpAny_bind (wpAny_setField_rec he₃ (by simp) λ h₄ he₄ hs₄=>?_)
 replace hs₄:Heap.SameBut it h₃ h₄:=hs₄
 replace he₄:IsItemIter h₄ it d (i+1) es.size ep e.key e.val:=he₄
 refine wpAny_bind (wpAny_setField_rec he₄ (by simp) λ h₅ he₅ hs₅=>?_)
 replace hs₅:Heap.SameBut it h₄ h₅:=hs₅
 replace he₅:IsItemIterOut h₅ it d (i+1) es.size ep e.key e.val hp.objs.size:=he₅
 refine wpAny_bind (wpAny_setField_rec he₅ (by simp) λ h₆ he₆ hs₆=>?_)
 replace hs₆:Heap.SameBut it h₅ h₆:=hs₆
 replace he₆:IsItemIterOut h₆ it d (i+1) es.size ep e.key e.val hp.objs.size:=he₆
 refine wpAny_bind (wpAny_letGo (wpAny_pure (wpAny_pure ⟨_,rfl,wpAny_pure (hQ h₆ he₆ ?_ ?_)⟩)))
 ·exact hs₆.extBut _ _ (Nat.ne_of_gt hil) (hs₅.extBut _ _ (Nat.ne_of_gt hil) (hs₄.extBut _ _ (Nat.ne_of_gt hil) (hs₃.extBut _ _ (Nat.ne_of_gt hil) ht₂)))
 ·exact λ b o hb e=>hs₆.extBut b o hb (hs₅.extBut b o hb (hs₄.extBut b o hb (hs₃.extBut b o hb (hk₂ b o hb e))))
theorem Abf {i:Nat}{ok ov:Value}{Q:Option Value->Shared->Prop}(hh:A.handled=none) (hit:IsItemIter s.heap it d i es.size ep ok ov) (x:Aaq s.heap d es ep) (hx:es[i]?=none)
  (hQ:∀ h',Heap.ExtBut it s.heap h'->Q none { s with heap:=h' }):wpAny (model prog w) A (pyNext (.ref it)) Q E s:=by
 obtain⟨od,hod,hcd,hdd⟩:=x
 have hT:s.TypeIs (.ref it) "dict_itemiterator":=⟨_,hit,rfl⟩
 unfold pyNext
 refine wpAny_bind (wpAny_attempt (wpAny_callSpecial?_slot (name:=Str.ofString "__next__") hT F.slot_dict_itemiterator_next
  (wpAny_call_entry F.slot_dict_itemiterator_next hT F.entry_dict_itemiterator_next ?_ (F.args_dict_itemiterator_next_1 _))))
 refine wpAny_bind (wpAny_pure (wpAny_bind (wpAny_bind ?_)))
 first|refine wpAny_bind (wpAny_typeNameOfWhole_itemiter hT (wpAny_pure ?_))|refine wpAny_bind (wpAny_typeNameOf_itemiter hT (wpAny_pure ?_))
 refine wpAny_bind (wpAny_fieldsOf hit rfl ?_)
 simp only [show Builtin.Dict_items.ownsTuple "dict_itemiterator"=true by decide,if_true]
 show wpAny _ _ (if (Value.ref d == Value.none)=true then _ else _) _ _ s
 rw [if_neg (show ¬ ((Value.ref d == Value.none)=true) from Bool.false_ne_true)]
 refine wpAny_bind (wpAny_pure (wpAny_bind (wpAny_dictEntries hod hdd ?_)))
 rw [if_neg (by simp)]
 refine wpAny_bind (wpAny_pure (wpAny_bind (wpAny_dictEpoch hod hdd ?_)))
 rw [if_neg (by simp)]
 refine wpAny_pure ?_
 simp only [show ¬ ((i:Int)<0) from by omega,if_false,Int.toNat_natCast,hx]
 refine wpAny_bind ?_
 first|refine wpAny_bind (wpAny_typeNameOfWhole_itemiter hT (wpAny_pure ?_))|refine wpAny_bind (wpAny_typeNameOf_itemiter hT (wpAny_pure ?_))
 show wpAny _ _ (setField (.ref it) 2 .none >>= _) _ _ s
 refine wpAny_bind (wpAny_setField hit rfl (by simp) ?_)
 show wpAny _ _ (newExc (.type "StopIteration") [] >>= _) _ _ _
 refine wpAny_bind ?_
 simp only [newExc,newTuple]
 refine wpAny_bind (wpAny_newObj_type ?_ (by size_fits))
 refine wpAny_bind (m:=firstArgMember _ _) (wpAny_of_eq (a:=Value.none) (by first|rfl|(simp only [firstArgMember];rfl)) (wpAny_newObj_type ?_ (by size_fits)))
 simp only [raiseNew]
 refine wpAny_bind (wpAny_handled ?_)
 rw [show A.in1.handled=none from hh]
 refine wpAny_bind (wpAny_pure (wpAny_throw ?_))
 refine wpAny_bind (wpAny_isInstance (T:="StopIteration") (b:=true) ⟨_,Heap.get?_push_size _ rfl,rfl⟩ isSubtype_stop ?_)
 exact wpAny_pure (hQ _ (((Heap.SameBut.update ..).extBut.push _).push _))
end
end M

set_option Elab.async false
set_option linter.all false
set_option maxRecDepth 100000
namespace M
open PySem PySem.W PySem.Spec PyProof.Rows L2
noncomputable def Iti (a:Addr) (o:Obj) (kvs:List (List Key × V)):It :=
 ⟨λ i H=>H a=some (.frz o (.dT kvs))/\i<kvs.length,λ i H x H'=>∃ T k v b,kvs[i]?=some (k,v)/\x=.ref T/\H T=none/\H b=some (.tup (k.map kV))/\H'=upd H T (.tup [.ref b,v]),λ i H=>H a=some (.frz o (.dT kvs))/\kvs.length<=i⟩
theorem Vn {prog:Program}{w:World}{A:Around}{E:Value->Shared->Prop}{s:Shared}{it d:Addr}{i n ep:Nat}{ok ov:Value}{Q:Value->Shared->Prop}(hit:IsItemIter s.heap it d i n ep ok ov) (h:Q (.ref it) s):wpAny (model prog w) A (pyIter (.ref it)) Q E s:=by
 have hT:s.TypeIs (.ref it) "dict_itemiterator":=⟨_,hit,rfl⟩
 refine wpAny_pyIter_slot hT F.slot_dict_itemiterator_iter (wpAny_call_entry F.slot_dict_itemiterator_iter hT PySem.W.kcp_entry ?_ (F.args_dict_itemiterator_iter_1 _))
 show wpAny _ _ (ret (.ref it)) _ _ s
 exact wpAny_pure ⟨_,rfl,"dict_itemiterator",_,hT,F.slot_dict_itemiterator_next.lookup,h⟩
theorem Wf {P:Program}{w:World}{K:PySem.W.Frag}{elts:List Expr}{tk:Nat}{tpos:Pos}(a it:Addr) (o:Obj) (kvs:List (List Key × V)) (hx:o.ExactDict) (es:Array DictEntry) (ep:Nat) (hd:o.data=.dict es ep) :
  Turn P w K (.Tuple elts tk tpos) (Iti a o kvs) [it] it (λ i h=>∃ ok ov,IsItemIter h it a i es.size ep ok ov) where
 mem:=by simp
 obj:=λ i h st b hb=>by
  have e:b=it:=by simpa using hb
  subst e
  obtain⟨ok,ov,e⟩:=st
  exact⟨_,e,λ v z=>by cases z⟩
 keep:=λ i h h' st k=>by obtain⟨ok,ov,e⟩:=st;exact⟨ok,ov,k it (by simp) _ e⟩
 item:=by
  intro X hP hw hK hc i pins s σ H E I hf st hg
  subst hP hw hK
  obtain⟨f0,f1,f2,f3,f4,f5⟩:=hf it (by simp)
  obtain⟨g,_,es',ep',d',l',ent⟩:=Sx I hg.1
  rw [hd] at d';cases d'
  have hi:i<es.size:=by rw [l'];exact hg.2
  obtain⟨k,v,b,e1,e2,e3,e4⟩:=ent i es[i] (by simp [hi])
  obtain⟨ok,ov,st⟩:=st
  have hil:it<s.heap.objs.size:=Heap.lt_size st
  refine Xy st ⟨o,g,hx,hd⟩ (e:=es[i]) (by simp [hi]) λ h' st' hT hk=>⟨_,rfl,?_⟩
  refine wpAny_letOwnedTupleGo_items st' λ h'' st'' hs''=>?_
  have nT:H s.heap.objs.size=none:=I.hok.fresh (Nat.le_refl _)
  have hT':=hs''.extBut _ _ (Nat.ne_of_gt hil) hT
  have I':Inv X pins σ (upd H s.heap.objs.size (.tup [.ref b,v])) { s with heap:=h'',toks:=s.toks }:=J4 I hf (λ c o hc e=>by
    have hc:c≠it:=by simpa using hc
    exact hs''.extBut c o hc (hk c o hc e)) (Nat.le_refl _)
   ⟨by rw [sizeLine_eq];simp,[es[i].key,es[i].val],.cons e2 (.cons e3 .nil),_,hT',rfl,0,rfl⟩
  exact⟨.ref s.heap.objs.size,_,I',rfl,⟨_,k,v,b,e1,rfl,nT,e4,rfl⟩,⟨_,_,st''⟩,λ c hc=>by
   have hc:c=it:=by simpa using hc
   subst hc
   rw [Ah (Nat.ne_of_lt hil)];exact f0⟩
 done:=by
  intro X hP hw hK hc i pins s σ H E I hf st hg
  subst hP hw hK
  obtain⟨f0,f1,f2,f3,f4,f5⟩:=hf it (by simp)
  obtain⟨g,_,es',ep',d',l',ent⟩:=Sx I hg.1
  rw [hd] at d';cases d'
  obtain⟨ok,ov,st⟩:=st
  exact Abf (I.ok.hd hc) st ⟨o,g,hx,hd⟩ (by simp;rw [l'];exact hg.2) λ h' eb=>⟨rfl,I.turned (t':=s.toks) (λ b o hb e=>eb b o hb e) f0 f1 f3 f4 f5⟩
 self:=λ _ _ _ _ _ st h=>by obtain⟨ok,ov,st⟩:=st;exact Vn st h
noncomputable def Arm (tl:TE):TI:=λ σ H R=>tl σ H λ x H1=>∃ a o kvs,x=.ref a/\H1 a=some (.frz o (.dT kvs))/\R (Iti a o kvs) H1
section
variable {X:Cx}{G:Fc}{o tg:Expr}{apos cpos tpos:Pos}{elts:List Expr}{tk:Nat}{tl:TE}
theorem Aby (ho:PE X o tl) (hbase:attributeBase o "items" X.env (eval o X.env)=eval o X.env:=by rfl) (hline:(apos.endLine == cpos.line)=true:=by rfl):PI X (.Tuple elts tk tpos) (.Call (.Attribute o "items" apos) [] [] cpos) (Arm tl):=by
 intro pins s σ H R I h
 refine wpAny_Call_method0_late hbase hline (thn (ho pins s σ H _ I h) ?_)
 rintro v s1 ⟨x,H1,I1,r1,q1⟩
 obtain⟨a,ob,kvs,rfl,e2,q2⟩:=q1
 cases r1
 obtain⟨g,hx,es,ep,hd,l,ent⟩:=Sx I1 e2
 have lo:(a == sysModules)=false:=((I1.hok a _ e2).2).2.1
 have rw0:Aaq s1.heap a es ep:=⟨ob,g,hx,hd⟩
 refine⟨"dict","dict.items",F.plainAttrs_dict,F.slot_dict_items,F.type_dict_items,rw0.type,λ b eb=>by cases eb;exact⟨ob,g,hx.2.1⟩,Calls.callWith_builtin rfl (PySem.evalArgs_none (X8 lo rw0 ?_))⟩
 refine Xo (d:=a) (es:=es) (ep:=ep) ⟨_,Heap.get?_push_size _ rfl,rfl,rfl⟩ (rw0.at λ o e=>Heap.get?_push_of_some _ e) ?_
 have I2:=I1.kept (h':=s1.heap.push { cls:=.type "dict_items",data:=.fields #[.ref a] }) (t':=s1.toks) λ b o e=>Heap.get?_push_of_some _ e
 refine⟨_,[_],_,_,H1,rfl,I2.kept (t':=s1.toks) λ b o e=>Heap.get?_push_of_some _ e,Wf a _ ob kvs hx es ep hd,⟨_,_,Heap.get?_push_size _ rfl⟩,λ b hb=>?_,q2⟩
 have e:=List.mem_singleton.mp hb
 subst e
 exact I2.fpOk (Nat.le_refl _) (I2.hok.fresh (Nat.le_refl _))
noncomputable def iDv (m:EV):Ev->R (List D):=λ E=>m E >>= λ d=>match d with
 | .dic kvs=>.ok (kvs.map λ kv=>kv.2)
 | _=>.no
noncomputable def iDi (m:EV):Ev->R (List D):=λ E=>m E >>= λ d=>match d with
 | .dic kvs=>.ok (kvs.map λ kv=>.tup [kT kv.1,kv.2])
 | _=>.no
theorem Um {m:EV}(gd:Gd X) (h:SF X G o m) (hbase:attributeBase o "items" X.env (eval o X.env)=eval o X.env:=by rfl) (hline:(apos.endLine == cpos.line)=true:=by rfl):SI X G (.Tuple elts tk tpos) (.Call (.Attribute o "items" apos) [] [] cpos) (iDi m) :=
 (Aby h hbase hline).imp λ σ H Q z0=>z0.elim λ E z0=>z0.elim λ hr f=>⟨E,hr,(Fin.bind f).mono λ d p v H1 s1 z=>by
 cases d with
 | dic kvs =>
  unfold Rp at z
  obtain⟨a,ws,rfl,no,⟨o,ha⟩,rs⟩:=z
  refine⟨a,o,ws,rfl,ha,p _ H1 s1 λ G' E' σ' H' le r'=>?_⟩
  have hl':=(locked le r' _ _ no ha).1
  refine⟨⟨hl',by simp [rs.length]⟩,λ i d hd=>?_⟩
  rw [List.getElem?_map,Option.map_eq_some_iff] at hd
  obtain⟨kd,e1,rfl⟩:=hd
  obtain⟨v,e2,pv⟩:=rs.at e1
  refine⟨⟨hl',(List.getElem?_eq_some_iff.mp e2).1⟩,λ x H'' ⟨T,k,v',b,e3,e4,nT,hb,e5⟩=>?_⟩
  subst e4 e5
  rw [e2] at e3;cases e3
  have sm:=Ar (o:=.tup [.ref b,v]) nT
  refine⟨sm,?_⟩
  unfold Rp
  refine⟨T,[.ref b,v],rfl,r'.fresh nT,Aq,Rps.cons ((Aeq r'.sane hb).mono sm λ _ z=>z) (Rps.cons ((pv.move (locked le r')).mono sm λ _ z=>z) Rps.nil)⟩
 | _=>exact p.elim⟩
end
end M

set_option Elab.async false
set_option linter.all false
set_option maxRecDepth 100000
namespace M
open PySem PySem.W PySem.Spec PyProof.Rows L2
noncomputable def Agy (a b c:EV):EV:=λ E=>a E >>= λ x=>match x with
 | .dic kvs=>b E >>= λ y=>c E >>= λ z=>ofO ((keyOf y).map λ ks=>(Mh kvs ks).getD z)
 | _=>.no
section
variable {X:Cx}{G:Fc}{o k z:Expr}{mo mk mz:EV}{apos cpos:Pos}
theorem Aba (gd:Gd X) (ho:SE X G o mo) (hk:SE X G k mk) (hz:SF X G z mz) (m:L2.M2 X o "get" apos k z cpos:=by exact⟨rfl,rfl,rfl,rfl⟩):SF X G (.Call (.Attribute o "get" apos) [k,z] [] cpos) (Agy mo mk mz) :=
 (Aaz (hu1 gd) ho hk hz m).imp λ σ H Q z0=>z0.elim λ E z0=>z0.elim λ hr f=>⟨E,hr,(Fin.bind f).mono λ dx fx v H1 s1 p1=>by
  cases dx with
  | dic kvs =>
   obtain⟨a,ws,rfl,ha,rk⟩:=id p1.dic
   refine⟨a,rfl,.inr ⟨ws,ha⟩,E,hr.same s1,(Fin.bind fx).mono λ dy fy w H2 s2 p2=>⟨E,(hr.same s1).same s2,(Fin.bind fy).mono λ dz fz u H3 s3 p3=>?_⟩⟩
   obtain⟨d,e,p⟩:=Fin.of fz
   simp only [Option.map_eq_some_iff] at e
   obtain⟨ks,e1,rfl⟩:=e
   obtain⟨b,rfl,hb⟩:=K9 e1 (p2.mono s3 λ _ z=>z)
   obtain⟨a',ws',ea,ha',rk'⟩:=(p1.mono (s2.trans s3) λ _ z=>z).dic
   cases ea
   have g:=rk'.get ks
   refine⟨_,Te ha' hb,p _ H3 ((s1.trans s2).trans s3) ?_⟩
   cases q:Mh kvs ks with
   | none=>rw [q] at g;dsimp only at g;rw [g];exact p3
   | some d'=>rw [q] at g;obtain⟨v',g1,g2⟩:=g;rw [g1];exact g2
  | _=>exact fx.elim⟩
end
end M

set_option Elab.async false
set_option linter.all false
set_option maxRecDepth 100000
namespace M
open PySem PySem.W PySem.Spec PyProof.Rows L2
noncomputable def small:List (List Int):=(List.range 9).flatMap λ a=>(List.range 9).map λ b=>[Int.ofNat a,Int.ofNat b]
noncomputable def hsh (k:List Int):Int:=reduceHash (Builtin.Tuple.tupleHashOf (k.map hashInt))
section
variable {prog:Program}{w:World}{A:Around}{E:Value->Shared->Prop}{s:Shared}{d:Addr}{o:Obj}{es:Array DictEntry}{ep:Nat}
end

section
variable {X:Cx}
end

noncomputable def Ape:D->Option D
 | .dic kvs=>if (kvs.all λ kv=>decide (kv.1∈small))=true then some (.dic kvs) else none
 | _=>none
section
variable {X:Cx}{G:Fc}{p pos:Pos}{e:Expr}{m:EV}
end
end M

set_option Elab.async false
set_option linter.all false
set_option maxRecDepth 100000
namespace M
open PySem PySem.Spec PyProof.Rows L2
theorem len1 {α:Type}:∀ {us:List α},us.length=1->∃ a,us=[a]
 | [a],_=>⟨a,rfl⟩
theorem len2 {α:Type}{us:List α}(h:us.length=2):∃ a b,us=[a,b]:=by
 cases us with
 | nil=>cases h
 | cons a us=>obtain⟨b,e⟩:=len1 (Nat.succ.inj h);exact⟨a,b,by rw [e]⟩
theorem Ao4 {α:Type}{us:List α}(h:us.length=3):∃ a b c,us=[a,b,c]:=by
 cases us with
 | nil=>cases h
 | cons a us=>obtain⟨b,c,e⟩:=len2 (Nat.succ.inj h);exact⟨a,b,c,by rw [e]⟩
theorem Ap8 {α:Type}{us:List α}(h:us.length=4):∃ a b c d,us=[a,b,c,d]:=by
 cases us with
 | nil=>cases h
 | cons a us=>obtain⟨b,c,d,e⟩:=Ao4 (Nat.succ.inj h);exact⟨a,b,c,d,by rw [e]⟩
noncomputable def Adm:List D->Bool
 | []=>true
 | d :: r=>Ab0 d && Adm r
noncomputable def Asj:D->Bool
 | .tup ds=>Adm ds
 | d=>Ab0 d
noncomputable def Aig:List D->Bool
 | []=>true
 | d :: r=>Asj d && Aig r
noncomputable def Amu:D->R D
 | .lst ds=>if Aig ds=true then .ok (.lst ds) else .no
 | _=>.no
noncomputable def Aln (i:Nat) (m:EV):EV:=λ E=>match E[i]? with
 | some (.ow (.lst _))=>m (frz i E) >>= Amu
 | _=>.no
section
variable {K:PySem.W.Frag}{H:Hp}{O:Addr->Prop}{a:Addr}{us:List V}
end
section
variable {X:Cx}{G:Fc}{e:Expr}{m:EV}
end
end M

set_option Elab.async false
set_option linter.all false
set_option maxRecDepth 100000
namespace M
open PySem PySem.Spec PyProof.Rows L2
noncomputable def orA (pr:Addr->Prop) (a:Addr):Addr->Prop:=λ b=>pr b\/b=a
noncomputable def Apt (i:Nat) (m:EV):EX:=λ E=>match E[i]? with
 | some (.ow (.dic c))=>m E >>= λ d=>.ok (.rt (.tup [d,.dic c]))
 | _=>.no
section
variable {X:Cx}{G:Fc}{i:Nat}{a:Addr}{st:Stmt}{rest:List Stmt}{m n:EX}{e:Expr}{me:EV}{pos:Pos}
end
section
variable {X:Cx}{G:Fc}{i:Nat}{a:Addr}{elt iter tg:Expr}{ifs:List Expr}{body:List Stmt}{scope:Scope}{pos:Pos}{ts:List Nat}{set:D->Ev->Option Ev}{mi:Ev->R (List D)}{mt:Ev->R Bool}{me:EV}{mb:EX}
end
open Classical in
noncomputable def offA (H:Hp) (a:Addr):Hp:=λ b=>if b=a then none else H b
noncomputable abbrev Kvs:=List (List Int × D)
noncomputable def spM (K:PySem.W.Frag) (n:Nat) (dn:List D->Kvs->R (D × Kvs)):Sp:=λ vs H Q _=>vs.length=n/\∃ (pr:Addr->Prop) (ds:List D) (us:List V) (a:Addr) (c:Kvs),vs=us++[.ref a]/\ds.length+1=n/\¬ pr a/\(∀ b,pr b->∃ o,H b=some o/\Ji o) ∧
 Rps K H (orA pr a) ds us/\Own K H (orA pr a) (.dic c) a/\Fin (dn ds c) (λ p=>∀ v H',Same (offA H a) H'->Rp K H' (orA pr a) p.1 v->Own K H' (orA pr a) (.dic p.2) a->Q v H') λ _=>False
structure CalM (P:Program) (w:World) (K:PySem.W.Frag) (mg:Str->Option Value) (base:Heap) (x:Str) (ps:List Str) (k:Nat) (dn:List D->Kvs->R (D × Kvs)):Prop where
 ex:∃ (f:Addr) (fd:FuncData),mg x=some (.ref f)/\PySem.W.keepIn K (.ref f)=true/\Binds K fd ps []/\FnOk P w K mg base CX0 k f fd ps (spM K ps.length dn)
section
variable {P:Program}{w:World}{K:PySem.W.Frag}{mg:Str->Option Value}{base:Heap}{x qual:Str}{st:Stmt}{f:Addr}{fd:FuncData}{N ps:List Str}{k i:Nat}{m:EX}
end
section
variable {X:Cx}{G:Fc}{e:Expr}{es:List Expr}{me:EV}{ma:Ev->R (List D)}{j:Nat}
noncomputable def As6 (j n:Nat) (dn:List D->Kvs->R (D × Kvs)) (ma:Ev->R (List D)) (mo:EV) (ta tb:EX):EX:=λ E=>match E[j]? with
 | some (.ow (.dic c))=>ma E >>= λ ds=>if ds.length+1=n then dn ds c >>= λ p=>mo (E.set j (.ow (.dic p.2))) >>= λ y=>ofO (fNe p.1 y) >>= λ z=>match z with
  | .bl true=>ta (E.set j (.ow (.dic p.2)))
  | .bl false=>tb (E.set j (.ow (.dic p.2)))
  | _=>.no
  else .no
 | _=>.no
end
end M

set_option Elab.async false
set_option linter.all false
set_option maxRecDepth 100000
namespace M
open PySem PySem.Spec PyProof.Rows L2
noncomputable def Ar2 (m:EV) (j:Nat):EX:=λ E=>match E[j]? with
 | some (.ow y)=>m E >>= λ d=>.ok (.rt (.tup [d,y]))
 | _=>.no
section
variable {X:Cx}{G:Fc}{st:Stmt}{rest:List Stmt}{m n:EX}{e:Expr}{me:EV}{pos tpos:Pos}
end
noncomputable def spT (K:PySem.W.Frag) (n:Nat) (den:List D->R D):Sp:=λ vs H Q _=>vs.length=n/\∃ (pr:Addr->Prop) (ds:List D),(∀ a,pr a->∃ o,H a=some o/\Ji o)/\Rps K H pr ds vs/\Fin (den ds) (λ d=>∀ t a v H' x y,d=.tup [x,y]->Same H H'->H a=none->H' t=some (.tup [v,.ref a])->Own K H' (orA pr a) y a->Q (.ref t) H') λ _=>False
structure CalT (P:Program) (w:World) (K:PySem.W.Frag) (mg:Str->Option Value) (base:Heap) (x:Str) (ps:List Str) (k:Nat) (dn:List D->R D):Prop where
 ex:∃ (f:Addr) (fd:FuncData),mg x=some (.ref f)/\PySem.W.keepIn K (.ref f)=true/\Binds K fd ps []/\FnOk P w K mg base CX0 k f fd ps (spT K ps.length dn)
section
variable {P:Program}{w:World}{K:PySem.W.Frag}{mg:Str->Option Value}{base:Heap}{x qual:Str}{st:Stmt}{f:Addr}{fd:FuncData}{N ps:List Str}{k:Nat}{m:EX}
end
section
variable {X:Cx}{G:Fc}{k j:Nat}{ps:List Str}{dn:List D->R D}{x:Str}{p pos:Pos}{e:Expr}{es:List Expr}{ma:Ev->R (List D)}
end
end M

set_option Elab.async false
set_option linter.all false
set_option maxRecDepth 100000
namespace M
open PySem PySem.Spec PyProof.Rows L2
structure Loose (G:Fc) (E:Ev) (σ:St) (H H':Hp) (js:List Nat) (n:Nat) (as:List Addr):Prop where
 len:as.length=n
 nd:as.Nodup
 lst:∀ a∈as,∃ vs,H' a=some (.lst vs)/\vs.length<999000
 h0:∀ a∈as,G.h0 a=none
 out:∀ a∈as,H a=none\/∃ j∈js,∃ d,E[j]?=some (.ow d)/\σ[j]?=some (some (.ref a))
noncomputable def Atd (j:Nat) (m:Ev->R (List D)):Ev->R (List D):=λ E=>match E[j]? with
 | some (.ow (.lst ds))=>if ds.length<999000 then m E else .no
 | _=>.no
section
variable {X:Cx}{G:Fc}{e:Expr}{es:List Expr}{me:EV}{mo:Ev->R (List D)}{js:List Nat}{j:Nat}
end
end M

set_option Elab.async false
set_option linter.all false
set_option maxRecDepth 100000
namespace M
open PySem PySem.W PySem.Spec PyProof.Rows L2 PySem.Calls
structure XCls (K:PySem.W.Frag) (C:Addr):Prop where
 ga:findIn K (.ref C) "__getattribute__"=some (some (.builtin "BaseException.__getattribute__"))
 gn:findIn K (.ref C) "__getattr__"=some none
 cl:findIn K (.ref C) "__class__"=some (some (.builtin "object.__class__"))
 be:mroIn K C (.type "BaseException")=some true
 ob:mroIn K C (.type "object")=some true
section
variable {prog:Program}{w:World}{A:Around}{E:Value->Shared->Prop}{h:Heap}{g:Array GenState}{d:Drawn}{t:Nat}{os:OsState}{a C:Addr}{o:Obj}{vs:Array Value}{K:PySem.W.Frag}
theorem Ahj {R:Result->Shared->Prop}(X:K.In h) (XC:XCls K C) (hx:h.get? a=some o) (hc:o.cls=.ref C) (hq:R (.ok (.ret (.ref C))) ⟨h,g,d,t,os⟩) :
  codeAny (model prog w) A (.call (.builtin "getset_descriptor.__get__") ⟨[.builtin "object.__class__",.ref a,.ref C],[]⟩) R ⟨h,g,d,t,os⟩:=by
 have hT5:(⟨h,g,d,t,os⟩:Shared).TypeIs (.builtin "object.__class__") "getset_descriptor":=F.typeOf_object_class
 have L1:Looks (model prog w) h (isSubtype (.ref C) (.type (".".intercalate ("object.__class__".cutAt '.').dropLast))) true:=by rw [F.owner_object_class];exact looks_mroIn X XC.ob
 refine codeAny_call_builtin F.slot_gs_get.plain F.entry_gs_get (F.slot_gs_get.check _ _ _ _ _ _ _ _ hT5 (F.args_gs_get _ _ _) ?_)
 repeat (any_goals (first|assumption|(with_reducible refine wpAny_loadPart_at hx ?_;rw [hc])|with_reducible refine L1.at ?_|wp_step))
 refine⟨Code.quiet_builtin _ (by decide +kernel),codeAny_builtin F.entry_object_class ?_⟩
 repeat (any_goals (first|assumption|(with_reducible refine wpAny_loadPart_at hx ?_;rw [hc])|wp_step))
theorem Abm {tk:Tok}{Q:PySem.Fin->Shared->Prop}(X:K.In h) (XC:XCls K C) (hx:h.get? a=some o) (hc:o.cls=.ref C) (hd:o.data=.fields vs) (hq:Q (.done (.ret (.ref C))) ⟨h,g,d,t,os⟩) :
  wpAny (model prog w) A (Builtin.«object.__getattribute__» ⟨[.ref a,.str "__class__" tk],[]⟩) Q E ⟨h,g,d,t,os⟩:=by
 have hT5:(⟨h,g,d,t,os⟩:Shared).TypeIs (.builtin "object.__class__") "getset_descriptor":=F.typeOf_object_class
 have f5:=F.typeOf_object_class
 have f6:=F.slot_gs_get.lookup
 have f7:=F.slot_gs_set.lookup
 have L1:=looks_findIn (M:=model prog w) X XC.cl
 repeat (any_goals (first|assumption|(with_reducible refine wpAny_loadPart_at hx ?_;rw [hc])|with_reducible refine L1.at ?_|wp_step))
 refine Ahj X XC hx hc ?_
 repeat (any_goals (first|assumption|wp_step))
theorem Aa0 {M:Model}{nameV:Value}{Q:Unit->Shared->Prop}(X:K.In h) (XC:XCls K C) (hx:h.get? a=some o) (hc:o.cls=.ref C) (hq:Q () ⟨h,g,d,t,os⟩):wpAny M A (checkBuiltinCall "BaseException.__getattribute__" ⟨[.ref a,nameV],[]⟩) Q E ⟨h,g,d,t,os⟩:=by
 have hk:builtinKind "BaseException.__getattribute__"=some .slot:=by decide +kernel
 have hsplit:splitId "BaseException.__getattribute__"=some ("BaseException","__getattribute__"):=by decide +kernel
 have L1:=looks_mroIn (M:=M) X XC.be
 have ha:=F.args_bexc_ga (.ref a) nameV
 simp only [checkBuiltinCall,hk,hsplit]
 refine wpAny_bind ?_
 ·unfold isInstance
  repeat (first|(with_reducible refine wpAny_loadPart_at hx ?_;rw [hc])|with_reducible refine L1.at ?_|wp_step)
  exact hq
theorem Agj {tk:Tok}{R:Result->Shared->Prop}(X:K.In h) (XC:XCls K C) (hx:h.get? a=some o) (hc:o.cls=.ref C) (hd:o.data=.fields vs) (hq:R (.ok (.ret (.ref C))) ⟨h,g,d,t,os⟩) :
  codeAny (model prog w) A (.call (.builtin "BaseException.__getattribute__") ⟨[.ref a,.str "__class__" tk],[]⟩) R ⟨h,g,d,t,os⟩ :=
 codeAny_call_builtin F.attr_ValueError.ga.plain F.entry_bexc_ga (Aa0 X XC hx hc (Abm X XC hx hc hd hq))
theorem Alq {tk:Tok}{fill expr:Bool}{Q:Value->Shared->Prop}(X:K.In h) (XC:XCls K C) (hx:h.get? a=some o) (hc:o.cls=.ref C) (hd:o.data=.fields vs) (hq:Q (.ref C) ⟨h,g,d,t,os⟩) :
  wpAny (model prog w) A (getAttrBy (.ref a) (.str "__class__" tk) fill expr) Q E ⟨h,g,d,t,os⟩:=by
 have f3:=F.attr_ValueError.ga.bind (.ref a)
 have hx0:(expr && onTheHeap (Value.builtin "BaseException.__getattribute__"))=false:=by cases expr<;>rfl
 have hx2:(Value.builtin "BaseException.__getattribute__" == Value.builtin "object.__getattribute__")=false:=by decide +kernel
 have hx1:(onTheHeap (Value.ref C) && Value.builtin "BaseException.__getattribute__" == Value.builtin "object.__getattribute__")=false:=by rw [hx2];rfl
 have L1:=looks_findIn (M:=model prog w) X XC.ga
 have L2:=looks_findIn (M:=model prog w) X XC.gn
 repeat (any_goals (first|assumption|(with_reducible refine wpAny_loadPart_at hx ?_;rw [hc])|with_reducible refine L1.at ?_|with_reducible refine L2.at ?_|wp_step))
 refine Agj X XC hx hc hd ?_
 repeat (any_goals (first|assumption|wp_step))
theorem Ad2 {Q:Option Value->Shared->Prop}(X:K.In h) (XC:XCls K C) (hx:h.get? a=some o) (hc:o.cls=.ref C) (hd:o.data=.fields vs) (hq:Q (some (.ref C)) ⟨h,g,d,t+1,os⟩) :
  wpAny (model prog w) A (getAttr? (.ref a) "__class__") Q E ⟨h,g,d,t,os⟩:=by
 unfold getAttr? getAttrBy?
 repeat (any_goals (first|assumption|with_reducible apply Alq X XC hx hc hd|wp_step))
end
noncomputable def XAt (a C:Addr) (h:Heap):Prop:=∃ o vs,h.get? a=some o/\o.cls=.ref C/\o.data=.fields vs
theorem XCls.obj {K:PySem.W.Frag}{C:Addr}(XC:XCls K C):∃ c d cd sl,K.lookup C=some ⟨c,d,.cls cd,sl⟩:=by
 have e:=XC.cl
 unfold findIn at e
 dsimp only at e
 split at e
 ·rename_i c d cd sl ho;exact⟨c,d,cd,sl,ho⟩
 ·cases e
theorem Ace {K:PySem.W.Frag}{a C:Addr}(XC:XCls K C):KitX K (.ref a) (.ref C) (XAt a C) where
 ty:=λ M h _ ⟨o,vs,h1,h2,_⟩=>by
  intro A Q E s k q
  have:=k _ _ h1
  unfold typeOf
  dsimp only
  refine wpAny_bind (wpAny_loadPart this (wpAny_pure ?_))
  rw [h2];exact q
 it:=λ M h X _=>by
  obtain⟨c,d,cd,sl,ho⟩:=XC.obj
  intro A Q E s k q
  unfold isType loadHead
  exact wpAny_bind (wpAny_loadPart (k _ _ (X _ _ ho)) (wpAny_pure q))
 ne:=λ h tp dd its n sl X htp=>by
  obtain⟨c,d,cd,sl',ho⟩:=XC.obj
  refine Bool.eq_false_iff.mpr λ q=>?_
  have e:C=tp:=Value.ref.inj (beq_iff_eq.mp q)
  subst e
  have z:=(X _ _ ho).symm.trans htp
  cases z
 ca:=λ {_ _ _ _ _ s} X p k=>by
  obtain⟨o,vs,h1,h2,h3⟩:=p
  obtain⟨h,g,d,t,os⟩:=s
  exact Ad2 X XC h1 h2 h3 k
theorem Wa {X:Cx}{pins:List (Addr × Obj)}{σ:L2.St}{H:Hp}{s:Shared}{A:Around}{E:Value->Shared->Prop}{Q:Value->Shared->Prop}{a C:Addr}{c:Value}{b:Bool}(I:Inv X pins σ H s) (XC:XCls X.K C) (x:XAt a C s.heap) (e:kitOne X.K (.ref C) c=some b)
  (h:∀ tk,Q (.bool b) { s with toks:=tk }):wpAny (model X.prog X.w) A (call (.builtin "isinstance") [.ref a,c]) Q E s :=
 kia_one (Ace XC) I.kIn x e (λ z=>nomatch z) h
end M

set_option Elab.async false
set_option linter.all false
set_option maxRecDepth 100000
namespace M
open PySem PySem.W PySem.Spec PyProof.Rows L2 PySem.Calls
theorem Uq {P:Program}{w:World}{H:Hp}{h:Heap}{a:Addr}{o:HO}(x:Cp P w H h a o):∃ ob,h.get? a=some ob:=by
 cases o with
 | lst xs=>obtain⟨_,_,_,_,e⟩:=x;exact⟨_,e⟩
 | tup xs=>obtain⟨_,_,_,_,e,_⟩:=x;exact⟨_,e⟩
 | dK kvs=>obtain⟨_,_,_,_,_,_,_,e,_⟩:=x;exact⟨_,e⟩
 | dT kvs=>obtain⟨_,_,_,_,_,_,_,e,_⟩:=x;exact⟨_,e⟩
 | set S n=>obtain⟨_,_,_,_,e,_⟩:=x;exact⟨_,e⟩
 | ins C dx fs=>obtain⟨_,_,_,e,_⟩:=x;exact⟨_,e⟩
 | own y=>exact x
 | xd fs=>obtain⟨_,⟨_,_,_,e,_⟩,_⟩:=x;exact⟨_,e⟩
 | rng lo hi=>obtain⟨_,_,_,e⟩:=x;exact⟨_,e⟩
 | frz ob u=>exact⟨_,x.1⟩
 | tbl ps=>exact⟨_,x⟩
 | met f y=>exact⟨_,x⟩
 | ext φ=>exact x.2.1
structure Fly (P:Program) (w:World) (l:List Env) (H:Hp) (s:Shared) (C e:Addr) (H':Hp) (s':Shared):Prop where
 os:s'.os=s.os
 bare:AllBare s'.gens
 un:Un (frs l) [] H H' s.heap s'.heap
 hok:HOk P w H' s'.heap
 same:Same H H'
 fr:H' e=none
 fl:∃ B t,Heap.FlyingW B l e (.ref C) (.ref t) s'.heap/\(∀ b o,s.heap.get? b=some o->H b=none->b∉frs l->B.get? b=some o)/\∀ b u o,H' b=some u->s'.heap.get? b=some o->B.get? b=some o
theorem O1 {P:Program}{w:World}{H:Hp}{h h' B:Heap}(x:HOk P w H h) (c:∀ b u o,H b=some u->h.get? b=some o->B.get? b=some o) (k:B.StaysIn h'):HOk P w H h':=λ b u e =>
 (x b u e).stay (λ c' v hc q=>k _ _ (by
  rcases hc with rfl|hc
  ·exact c _ _ _ e q
  ·exact c _ _ _ hc q)) (λ _ q=>q) λ _ _ q=>q
section
variable {X:Cx}{pins:List (Addr × Obj)}{σ:L2.St}{H H':Hp}{s s':Shared}{B h':Heap}{C e:Addr}
theorem Ua (J:Inv X pins σ H s) (hx:X.ex=[]) (c2:∀ b o,X.s₀.heap.get? b=some o->X.H₀ b=none->b∉X.fs->B.get? b=some o) (c3:∀ b u o,H b=some u->s.heap.get? b=some o->B.get? b=some o)
  (sm:Same X.H₀ H) (k:B.StaysIn h') (up:s.heap.UpToSlots h'):Un X.fs [] X.H₀ H X.s₀.heap h':=by
 have no:∀ b:Addr,b∉X.ex:=λ b=>by rw [hx];simp
 have sl:∀ b o,X.s₀.heap.get? b=some o->X.H₀ b=none->b∈X.fs->∃ sl,h'.get? b=some { o with slots:=sl }:=λ b o q n hb=>by
  obtain⟨sl,e⟩:=J.base.slot b o q n hb (no b)
  obtain⟨_,o',ho',hd⟩:=J.ok.funs.mem hb
  rw [q] at ho';cases ho'
  obtain⟨sl',e'⟩:=up b { o with slots:=sl } e hd
  exact⟨sl',e'⟩
 refine⟨λ b o q n hb _=>k b o (c2 b o q n hb),λ b o q n hb _=>sl b o q n hb,λ b o q n _=>J.base.free b o q n (no b),λ b o q _=>?_,J.base.tups,J.base.frzs,J.base.tbls⟩
 cases n:X.H₀ b with
 | none =>
  by_cases hb:b∈X.fs
  ·obtain⟨_,e⟩:=sl b o q n hb;exact⟨_,e⟩
  ·exact⟨o,k b o (c2 b o q n hb)⟩
 | some u =>
  obtain⟨ob,e⟩:=Uq (J.hok b u (sm b u n))
  exact⟨ob,k _ _ (c3 b u ob (sm b u n) e)⟩
theorem Z6 (J:HOk X.prog X.w H s.heap) (c3:∀ b u o,H b=some u->s.heap.get? b=some o->B.get? b=some o) (k:B.StaysIn h'):∀ b u o,H b=some u->h'.get? b=some o->B.get? b=some o:=λ b u o hu ho=>by
 obtain⟨ob,e⟩:=Uq (J b u hu)
 have z:=c3 b u ob hu e
 have y:=k _ _ z
 rw [ho] at y;cases y
 exact z
theorem Aht (I:Inv X pins σ H s) (hx:X.ex=[]) (c2:∀ b o,s.heap.get? b=some o->H b=none->b∉frs X.stack->B.get? b=some o):∀ b o,X.s₀.heap.get? b=some o->X.H₀ b=none->b∉X.fs->B.get? b=some o:=λ b o q n hb=>by
 have no:b∉X.ex:=by rw [hx];simp
 refine c2 b o (I.base.keep b o q n hb no) (I.base.free b o q n no) λ z=>?_
 rcases List.mem_cons.mp (I.stkSub b z) with z|z
 ·exact absurd (Nat.lt_of_lt_of_le (Heap.lt_size q) I.ok.above) (by rw [z];exact Nat.lt_irrefl _)
 ·exact hb z
theorem Fly.inv (I:Inv X pins σ H s) (F:Fly X.prog X.w X.stack H s C e H' s'):Inv X pins σ H' s':=by
 obtain⟨hh,g,d,tk,os'⟩:=s'
 obtain rfl:os'=s.os:=F.os
 exact I.call (h':=hh) (g':=g) (d':=d) (t':=tk) (ch:=[]) F.un F.hok F.bare (λ b z=>absurd z (by simp))
theorem Fly.leave {Q:Unit->Shared->Prop}{E:Value->Shared->Prop}(I:Inv X pins σ H s) (hx:X.ex=[]) (hs:X.stack=X.env :: X.outer) (hf:X.env.frame=some X.env.locals) (F:Fly X.prog X.w X.stack H s C e H' s') (sm:Same X.H₀ H)
  (q:∀ s'',Fly X.prog X.w X.outer X.H₀ X.s₀ C e H' s''->Q () s''):wpAny (model X.prog X.w) X.A (leaving X.env (.ref e)) Q E s':=by
 have J:=F.inv I
 obtain⟨B,t,fl,c2,c3⟩:=F.fl
 have cc:=Aht I hx c2
 rw [hs] at fl
 refine wpAny_leaves_onW (I.ok.frames.trans (by rw [hs])) hf fl λ h' x1 x2=>q _ ⟨J.os,J.bare,Ua J hx cc c3 (sm.trans F.same) x1.1 x2,O1 J.hok c3 x1.1,sm.trans F.same,F.fr,B,t,x1,cc,Z6 J.hok c3 x1.1⟩
theorem Wh {Q:Unit->Shared->Prop}{E:Value->Shared->Prop}{h₁:Heap}{args:List Value}(I:Inv X pins σ H s) (hx:X.ex=[]) (hs:X.stack=X.env :: X.outer) (hf:X.env.frame=some X.env.locals) (hm:Heap.MadeExcOf s.heap h₁ e (.ref C) args) (sm:Same X.H₀ H)
  (q:∀ s'',Fly X.prog X.w X.outer X.H₀ X.s₀ C e H s''->Q () s''):wpAny (model X.prog X.w) X.A (leaving X.env (.ref e)) Q E { s with heap:=h₁ }:=by
 have hin:∀ env∈X.stack,∀ a,env.frame=some a->a∈frs X.stack:=λ env he a ha=>List.mem_filterMap.mpr ⟨env,he,ha⟩
 have st:(hideAll s.heap (frs X.stack)).StaysIn s.heap:=λ b o z=>of_hideAll _ z
 have c2:∀ b o,s.heap.get? b=some o->H b=none->b∉frs X.stack->(hideAll s.heap (frs X.stack)).get? b=some o:=λ b o z _ hb=>hideAll_get _ z hb
 have c3:∀ b u o,H b=some u->s.heap.get? b=some o->(hideAll s.heap (frs X.stack)).get? b=some o:=λ b u o hu z=>hideAll_get _ z λ hb=>by rw [I.stkFree b hb] at hu;cases hu
 have ff0:=funFrames_hide I.stack hin
 have ff:s.heap.FunFrames (hideAll s.heap (frs X.stack)) (X.env :: X.outer):=by rw [hs] at ff0;rw [hs];exact ff0
 have cc:=Aht I hx c2
 have fe:H e=none:=by
  cases z:H e with
  | none=>rfl
  | some u =>
   obtain⟨ob,y⟩:=Uq (I.hok e u z)
   rw [hm.new] at y;cases y
 have up0:s.heap.UpToSlots h₁:=Heap.UpToSlots.of_keeps hm.keeps
 refine wpAny_leaves_madeW (s:={ s with heap:=h₁ }) (I.ok.frames.trans (by rw [hs])) hf st ff hm λ h' t x1 _ _ x4=>q _ ?_
 exact⟨I.os,I.bare,Ua I hx cc c3 sm x1.1 (up0.trans x4),O1 I.hok c3 x1.1,sm,fe,_,t,x1,cc,Z6 I.hok c3 x1.1⟩
end
end M

set_option Elab.async false
set_option linter.all false
set_option maxRecDepth 100000
namespace M
open PySem PySem.W PySem.Spec PyProof.Rows L2 PySem.Calls
noncomputable def cname:Nat->Str
 | 0=>"NoFloor"
 | 1=>"NoLaying"
 | 2=>"NotPlain"
 | 3=>"NoTurn"
 | 4=>"NoNumber"
 | _=>"NoNote"
structure Link (X:Cx) (G:Fc):Prop where
 made:∀ {pins:List (Addr × Obj)} {σ:L2.St} {H:Hp} {s:Shared} {h':Heap} {e C:Addr} {c:Nat} {args:List Value},Inv X pins σ H s->Same G.h0 H->X.mg (cname c)=some (.ref C)->G.xc c->Heap.MadeExcOf s.heap h' e (.ref C) args->X.xe (.ref e) { s with heap:=h' }
 flew:∀ {pins:List (Addr × Obj)} {σ:L2.St} {H:Hp} {s:Shared} {H':Hp} {s':Shared} {e C:Addr} {c:Nat},Inv X pins σ H s->Same G.h0 H->X.mg (cname c)=some (.ref C)->G.xc c->Fly X.prog X.w X.stack H s C e H' s'->X.xe (.ref e) s'
noncomputable def CXE (P:Program) (w:World):CXT:=λ outer H s E e s'=>∃ a C H',e=.ref a/\Fly P w outer H s C a H' s'/\E e (some C) H'
noncomputable abbrev bxE (P:Program) (w:World) (K:PySem.W.Frag) (mg:Str->Option Value) (base:Heap) (N:List Str) (qual:Str) (sc:Scope) (f:Addr) (cdv:Value) (A:Around) (outer:List Env) (s:Shared) (H:Hp) (E:XK):Cx:=Adg (CXE P w) P w K mg base N qual sc f cdv A outer s H E
noncomputable def spE (K:PySem.W.Frag) (mg:Str->Option Value) (n:Nat) (den:List D->R D):Sp:=λ vs H Q E=>vs.length=n/\∃ (pr:Addr->Prop) (ds:List D),(∀ a,pr a->∃ o,H a=some o/\Ji o)/\Rps K H pr ds vs/\Fin (den ds) (λ d=>∀ v H',Same H H'->Rp K H' pr d v->Q v H') λ c=>∀ e C H',mg (cname c)=some (.ref C)->Same H H'->E e (some C) H'
structure CalE (P:Program) (w:World) (K:PySem.W.Frag) (mg:Str->Option Value) (base:Heap) (x:Str) (ps:List Str) (k:Nat) (dn:List D->R D):Prop where
 ex:∃ (f:Addr) (fd:FuncData),mg x=some (.ref f)/\PySem.W.keepIn K (.ref f)=true/\Binds K fd ps []/\FnOk P w K mg base (CXE P w) k f fd ps (spE K mg ps.length dn)
section
variable {P:Program}{w:World}{K:PySem.W.Frag}{mg:Str->Option Value}{base:Heap}{x qual:Str}{st:Stmt}{f:Addr}{fd:FuncData}{N ps:List Str}{k:Nat}{m:EX}
theorem Ab4 {sc:Scope}{cdv:Value}{A:Around}{outer:List Env}{s:Shared}{H:Hp}{E:XK}{pr:Addr->Prop}:Link (bxE P w K mg base N qual sc f cdv A outer s H E) ⟨H,pr,λ c=>∀ e C H',mg (cname c)=some (.ref C)->Same H H'->E e (some C) H'⟩ where
 made:=λ I sm hm hc h=>Wh I rfl rfl rfl h sm λ s'' F=>⟨_,_,_,rfl,F,hc _ _ _ hm sm⟩
 flew:=λ I sm hm hc F=>F.leave I rfl rfl rfl sm λ s'' F'=>⟨_,_,_,rfl,F',hc _ _ _ hm F'.same⟩
theorem Ac5 (F:Fun K x qual st f fd) (S:FnScope N ps (Ai st))
  (hb:∀ (cdv:Value) (A:Around) (outer:List Env) (s:Shared) (H:Hp) (E:XK),Room k (bxE P w K mg base N qual (Ai st) f cdv A outer s H E).A->Gd (bxE P w K mg base N qual (Ai st) f cdv A outer s H E).nox->∀ G:Fc,Link (bxE P w K mg base N qual (Ai st) f cdv A outer s H E) G->SB (bxE P w K mg base N qual (Ai st) f cdv A outer s H E) G (Fg st) m) :
  FnOk P w K mg base (CXE P w) (k+1) f fd ps (spE K mg ps.length (den N.length m)):=by
 obtain⟨oc,od,kV,doc,pm,an,cdv,ct,osl,rfl,lk,hcd⟩:=F.ex
 refine Ai8 lk hcd S (λ vs H Q E h=>h.1) λ A outer s H vs Q E hr ⟨hl,pr,ds,hp,rs,f⟩=>?_
 refine⟨_,hb cdv A outer s H E hr ⟨rfl,PassesOwn.never,S.nd,by have:=hr.units;exact Nat.lt_of_le_of_lt (Nat.add_le_add_left (by decide) _) this⟩ _ (Ab4 (pr:=pr)),Jq N.length ds,Px hp rs,?_⟩
 refine (Fin.bind f).mono λ o p=>?_
 cases o with
 | rt d=>exact λ v H' s z=>p v H' s z
 | nx E'=>exact λ σ' H' r'=>p .non H' r'.base (by unfold Rp;rfl)
 | bk E'=>exact p.elim
 | ct E'=>exact p.elim
end
noncomputable def calm {α:Type}(m:Ev->R α):Ev->R α:=λ E=>match m E with
 | .ok a=>.ok a
 | _=>.no
@[simp] theorem Gm {α:Type}{m:Ev->R α}{E:Ev}{a:α}(h:m E=.ok a):calm m E=.ok a:=by unfold calm;rw [h]
noncomputable def Fc.calm (G:Fc):Fc:={ G with xc:=λ _=>False }
theorem Rel.calm {K:PySem.W.Frag}{G:Fc}{E:Ev}{σ:St}{H:Hp}(r:Rel K G E σ H):Rel K G.calm E σ H:=⟨r.len,r.fz,r.ow,r.ne,r.base,r.prt⟩
theorem Rel.uncalm {K:PySem.W.Frag}{G:Fc}{E:Ev}{σ:St}{H:Hp}(r:Rel K G.calm E σ H):Rel K G E σ H:=⟨r.len,r.fz,r.ow,r.ne,r.base,r.prt⟩
theorem Oh {α:Type}{m:Ev->R α}{E:Ev}{p:α->Prop}{x:Nat->Prop}(h:Fin (M.calm m E) p x):Fin (m E) p λ _=>False:=by
 unfold M.calm at h
 cases e:m E with
 | ok a=>rw [e] at h;exact h
 | er c=>rw [e] at h;exact h
 | no=>rw [e] at h;exact h
section
variable {X:Cx}{G:Fc}
theorem Ia {st:Stmt}{m:EX}(h:∀ G:Fc,(∀ c,¬ G.xc c)->SS X.nox G st m):SS X G st (M.calm m):=λ pins s σ H D I ⟨E,hr,f⟩ =>
 wpAny_mono (h G.calm (λ _ z=>z) pins s σ H D (I.wish _) ⟨E,hr.calm,(Oh f).mono λ o p=>by
  cases o with
  | nx E'=>exact λ σ' H' r'=>p σ' H' r'.uncalm
  | bk E'=>exact λ σ' H' r'=>p σ' H' r'.uncalm
  | ct E'=>exact λ σ' H' r'=>p σ' H' r'.uncalm
  | rt d=>exact p⟩) (λ _ _ q=>q.unwish) λ _ _ z=>False.elim z
theorem Yb {e:Expr}{m:Ev->R Bool}(h:∀ G:Fc,(∀ c,¬ G.xc c)->ST X.nox G e m):ST X G e (M.calm m) :=
 PT.nox (PT.imp (h G.calm λ _ z=>z) λ σ H Q ⟨E,hr,f⟩=>⟨E,hr.calm,Oh f⟩)
theorem Ajn {es:List Expr}{t:TA}(h:PA X.nox es t):PA X es t:=λ pos pins s σ H Q I hw =>
 wpAny_mono (h pos pins s σ H Q (I.wish _) hw) (λ _ _ ⟨vs,H',I',r,q⟩=>⟨vs,H',I'.unwish,r,q⟩) λ _ _ z=>False.elim z
theorem Af4 {es:List Expr}{m:Ev->R (List D)}(h:∀ G:Fc,(∀ c,¬ G.xc c)->SA X.nox G es m):SA X G es (M.calm m) :=
 Ajn (PA.imp (h G.calm λ _ z=>z) λ σ H Q ⟨E,hr,f⟩=>⟨E,hr.calm,Oh f⟩)
end
section
variable {X:Cx}{G:Fc}{k:Nat}{f:Addr}{fd:FuncData}{ps:List Str}{dn:List D->R D}{x:Str}{p pos:Pos}{e:Expr}{es:List Expr}{ma:Ev->R (List D)}{sp:Sp}{CX:CXT}
theorem Aih {pins:List (Addr × Obj)}{σ:L2.St}{H:Hp}{s:Shared}{Q:VK}{E:XK}{us:List Value}{vs:List V}(F:FnOk X.prog X.w X.K X.mg X.base CX k f fd ps sp) (hr:Room k X.A) (hb:Binds X.K fd ps [])
  (hx:∀ e s',CX X.stack H s E e s'->X.xe e s') (I:Inv X pins σ H s) (r:Vals vs us) (h:sp vs H Q E):wpAny (model X.prog X.w) X.A (call (.ref f) us) (EP X pins σ Q) X.xe s:=by
 have hl:us.length=ps.length:=by rw [<-r.length];exact F.len _ _ _ _ h
 have hb':=hb s us I.kIn (by rw [List.append_nil];exact hl)
 rw [List.append_nil] at hb'
 refine wpAny_call (codeAny_mono (F.run X.A X.stack s H ⟨us,[]⟩ us vs Q E hr I.env0 hb' r h) λ r s' hq=>?_)
 rcases r with e|fl
 ·exact hx e s' hq
 ·rcases fl with _|_|_|u
  all_goals first|exact I.after hq|exact False.elim hq
theorem O9 {n:Nat}{pins:List (Addr × Obj)}{σ:L2.St}{H:Hp}{s:Shared}{Q:VK}{Ev:Ev}{xc:Nat->Prop}(F:FnOk X.prog X.w X.K X.mg X.base (CXE X.prog X.w) k f fd ps (spE X.K X.mg n dn)) (hr:Room k X.A) (hg:Gl X x) (hm:X.mg x=some (.ref f)) (hk:PySem.W.keepIn X.K (.ref f)=true) (hb:Binds X.K fd ps [])
  (ha:∀ G:Fc,(∀ c,¬ G.xc c)->SA X.nox G (e :: es) ma) (I:Inv X pins σ H s) (hrl:Rel X.K G Ev σ H) (fn:Fin (Bj n dn (M.calm ma) Ev) (λ d=>∀ v H',Same H H'->Rp X.K H' (Ow G.pr Ev σ) d v->Q v H') xc)
  (hx:∀ c H1 s1 H' s' e C,xc c->Inv X pins σ H1 s1->Same H H1->Fly X.prog X.w X.stack H1 s1 C e H' s'->X.mg (cname c)=some (.ref C)->X.xe (.ref e) s')
  (hdb:(x == ("__debug__":Str))=false:=by decide) (he:starEach (e :: es) X.env=(false,eval e X.env) :: starEach es X.env:=by rfl) (hpl:(backTo pos (starEach es X.env)).any (·.1)=false:=by rfl) :
  wpAny (model X.prog X.w) X.A (eval (.Call (.Name x p) (e :: es) [] pos) X.env) (EP X pins σ Q) X.xe s:=by
 refine wpAny_Call_Name_kw (Kz I hg hm ?_ hdb)
 refine PySem.W.callWith_K (h₀:=X.base) I.ok.mod.kin hk (thn ((Af4 (G:=⟨G.h0,G.pr,xc⟩) ha) pos pins s σ H (λ vs H1=>Same H H1/\spE X.K X.mg n dn vs H1 Q λ e oc H'=>∃ c C,oc=some C/\X.mg (cname c)=some (.ref C)/\xc c) I
  ⟨Ev,⟨hrl.len,hrl.fz,hrl.ow,hrl.ne,hrl.base,hrl.prt⟩,(Fin.bind fn).mono λ ds p vs H1 s1 rs=>⟨s1,?_⟩⟩) λ us s1 ⟨vs,H1,I1,r,sm,q⟩=>⟨I1.kIn,?_⟩) he hpl
 ·split at p
  ·rename_i hl
   refine⟨by rw [rs.length];exact hl,Ow G.pr Ev σ,ds,λ a z=>(hrl.same s1).owned z,rs,?_⟩
   revert p
   cases dn ds with
   | ok d=>exact λ p v H' s z=>p v H' (s1.trans s) z
   | er c=>exact λ p e C H' hm _=>⟨c,C,rfl,hm,p⟩
   | no=>exact λ p=>p
  ·exact p.elim
 ·refine Aih F hr hb ?_ I1 r q
  rintro e' s' ⟨a,C,H',rfl,F',c,C',e1,hm',xc'⟩
  cases e1
  exact hx c H1 s1 H' s' a C xc' I1 sm F' hm'
theorem Agf {j:Nat}(C:CalE X.prog X.w X.K X.mg X.base x ps k dn) (lk:Link X G) (hr:Room j X.A) (hk:k<=j) (hg:Gl X x) (ha:∀ G:Fc,(∀ c,¬ G.xc c)->SA X.nox G (e :: es) ma) (hdb:(x == ("__debug__":Str))=false:=by decide) (he:starEach (e :: es) X.env=(false,eval e X.env) :: starEach es X.env:=by rfl) (hpl:(backTo pos (starEach es X.env)).any (·.1)=false:=by rfl) :
  SF X G (.Call (.Name x p) (e :: es) [] pos) (Bj ps.length dn (M.calm ma)):=by
 obtain⟨f,fd,hm,hk',hb,F⟩:=C.ex
 rintro pins s σ H Q I ⟨Ev,hrl,fn⟩
 exact O9 F (hr.mono hk) hg hm hk' hb ha I hrl fn (λ c H1 s1 H' s' e C xc I1 sm F' hm'=>lk.flew I1 (hrl.base.trans sm) hm' xc F') hdb he hpl
end
end M

set_option Elab.async false
set_option linter.all false
set_option maxRecDepth 100000
namespace M
open PySem PySem.W PySem.Spec PyProof.Rows L2 PySem.Calls
theorem Ae2 {K:PySem.W.Frag}{h:Heap}{C:Addr}{bmB:List Value}{newId:String}(X:K.In h) (q:excIn K C bmB newId=true):∃ bm N nm qn bs hdct sn sub ab col dd k0 k1 k2 k3 k5 mN,
  h.get? C=some (excClassObj nm qn C N bs bm hdct sn sub ab col dd k0 k1 k2 k3 k5 newId)/\h.Ns N mN/\mN "__init__"=none/\OwnTail h bmB bm:=by
 unfold excIn at q
 split at q
 next dd cd sl ho =>
  split at q
  next C' bm k0 k1 k2 k3 n k5 hm hs =>
   have q1:=Bool.and_eq_true_iff.mp q
   have q2:=Bool.and_eq_true_iff.mp q1.1
   have q3:=Bool.and_eq_true_iff.mp q2.1
   have q4:=Bool.and_eq_true_iff.mp q3.1
   have q5:=Bool.and_eq_true_iff.mp q4.1
   obtain rfl:=beq_iff_eq.mp q5.1
   obtain rfl:=beq_iff_eq.mp q5.2
   have hdel:=q4.2
   cases cd with
   | mk nm bs mro ns qn hd sn sub ab col del =>
   cases sl
   simp only at hm hs hdel
   subst hm hs
   cases del with
   | true=>cases hdel
   | false=>exact⟨bm,ns,nm,qn,bs,hd,sn,sub,ab,col,dd,k0,k1,k2,k3,k5,_,X _ _ ho,.of_isNs (isNs_of_in X q2.2),nsMap_none_of_in X q2.2 (beq_iff_eq.mp q1.2),tail_of_in X q3.2⟩
  next=>cases q
 next=>cases q
section
variable {X:Cx}{G:Fc}
noncomputable def Vc (c:Nat):EX:=λ _=>.er c
theorem Ut (c:Nat) {x:Str}{msg:Str}{C:Addr}{newId initId B:String}{bmB:List Value}{np kp cpos pos:Pos}{j:Nat}(FB:ExcBaseFacts B newId initId bmB) (lk:Link X G) (hc:X.calm=true) (hx:cname c=x) (hg:Gl X x) (hm:X.mg x=some (.ref C)) (q:excIn X.K C bmB newId=true)
  (hdb:(x == ("__debug__":Str))=false:=by decide):SS X G (.Raise (some (.Call (.Name x np) [.Constant (.str msg) j kp] [] cpos)) none pos) (Vc c):=by
 rintro pins s σ H D I ⟨E,hr,f⟩
 obtain⟨bm,N,nm,qn,bs,hdct,sn,sub,ab,col,dd,k0,k1,k2,k3,k5,mN,hC,hN,hni,T⟩:=Ae2 I.ok.mod.kin q
 refine wpAny_Raise_call_subT (nm:=nm) (q:=qn) (C:=C) (N:=N) (bs:=bs) (bm:=bm) (hdct:=hdct) (sn:=sn) (sub:=sub) (ab:=ab) (col:=col) (dd:=dd) (k0:=k0) (k1:=k1) (k2:=k2) (k3:=k3) (k5:=k5) FB (mN:=mN) (T.hasType FB.hasBase) (I.ok.hd hc) rfl hni (Kz I hg hm ⟨rfl,?_⟩ hdb)
 refine Calls.evalArgs_plain (wpAny_mono ((Br Uo Ea) cpos pins s σ H (λ vs H'=>H'=H/\vs.length=1) I ⟨rfl,rfl⟩) ?_ λ _ _ z=>z)
 rintro us s2 ⟨vs,H1,I1,r,rfl,hl⟩
 refine⟨rfl,by show us.length<=sizeLine;rw [<-r.length,hl];decide,I1.bk _ _ hC,hN.keeps I1.bk,T.keeps I1.bk,λ h' e hmade=>lk.made I1 hr.base (by rw [hx];exact hm) f hmade⟩
end
structure XTop (K:PySem.W.Frag) (D:Addr):Prop extends XCls K D where
 ty:typeIn K (.ref D)=some (.type "type")
theorem Z4 {K:PySem.W.Frag}{M:Model}{A:Around}{E:Value->Shared->Prop}{Q:Bool->Shared->Prop}{h:Heap}{g:Array GenState}{d:Drawn}{t:Nat}{os:OsState}{e C D:Addr}{oe:Obj}(X:K.In h) (XD:XTop K D) (he:h.get? e=some oe) (hcls:oe.cls=.ref C) (hs:mroIn K C (.ref D)=some true)
  (hq:Q true ⟨h,g,d,t,os⟩):wpAny M A (excMatches (.ref e) (.ref D)) Q E ⟨h,g,d,t,os⟩:=by
 have LT:Looks M h (typeOf (.ref D)) (.type "type"):=looks_typeIn X XD.ty
 have LB:=looks_mroIn (M:=M) X XD.be
 have LS:=looks_mroIn (M:=M) X hs
 obtain⟨c',d',cd,sl,ho⟩:=XD.obj
 have hD:=X _ _ ho
 have f:=tc_notTuple
 unfold excMatches
 repeat (first|with_reducible refine LT.at ?_|with_reducible refine LB.at ?_|with_reducible refine LS.at ?_|(with_reducible refine wpAny_loadPart_at he ?_;rw [hcls])|with_reducible refine wpAny_loadPart_at hD ?_|wp_step)
 exact hq
end M

set_option Elab.async false
set_option linter.all false
set_option maxRecDepth 100000
namespace M
open PySem PySem.W PySem.Spec PyProof.Rows L2 PySem.Calls
noncomputable def HE (X:Cx) (a:Addr) (i:Nat) (e:Expr) (v:V):Prop:=PE X e λ σ H Q=>σ[i]?=some (some (.ref a))/\Q v H
noncomputable def HT (X:Cx) (a:Addr) (i:Nat) (e:Expr) (b:Bool):Prop:=PT X e λ σ H Q=>σ[i]?=some (some (.ref a))/\Q b H
noncomputable def HS (X:Cx) (a:Addr) (i:Nat) (sts:List Stmt) (v:V):Prop:=PSs X sts λ D σ H=>σ[i]?=some (some (.ref a))/\D.rt v H
noncomputable def Pnd (X:Cx) (a C:Addr):Prop:=∃ o vs,(a,o)∈X.pn/\o.cls=.ref C/\o.data=.fields vs
section
variable {X:Cx}{a C:Addr}{i:Nat}{e e':Expr}{v:V}{b b':Bool}{p p2 p3 pos:Pos}{n y:Str}{sts rest:List Stmt}
theorem Aqr (hp:Pnd X a C) (XC:XCls X.K C) {c:Value}{cv:V}(rc:RelV cv c) (hc:∀ u,RelV cv u->u=c) (k:kitOne X.K (.ref C) c=some b):Fq X (.builtin "isinstance") λ xs H Q=>xs=[.ref a,cv]/\Q (.bl b) H:=by
 rintro pins s σ H xs us Q I r ⟨rfl,q⟩
 obtain⟨u,w',rfl,r1,r2⟩:=vals2 r
 cases r1
 obtain rfl:=hc _ r2
 obtain⟨o,vs,h1,h2,h3⟩:=hp
 exact Wa I XC ⟨o,vs,(I.pin _ (List.mem_append_left _ h1)).1,h2,h3⟩ k λ tk=>⟨.bl b,H,I.tok _,rfl,q⟩
theorem Ac8 (hp:Pnd X a C) (XC:XCls X.K C) (hg:Gl X "isinstance") (hm:X.mg "isinstance"=none) {c:Value}{cv:V}(rc:RelV cv c) (hc:∀ u,RelV cv u->u=c) (k:kitOne X.K (.ref C) c=some b) (hy:PE X (.Name y p3) (tC cv))
  (hN:X.N[i]?=some n:=by rfl) (hv:Vis X.env.scope n:=by first|exact Or.inl rfl|exact Or.inr (Or.inl rfl)|exact Or.inr (Or.inr rfl)) (hd:(n == ("__debug__":Str))=false:=by decide) (hcd:(n == ("__classdict__":Str))=false:=by decide)
  (hs:starEach [.Name n p2,.Name y p3] X.env=(false,eval (.Name n p2) X.env) :: starEach [.Name y p3] X.env:=by rfl) (hs2:starEach [.Name y p3] X.env=(false,eval (.Name y p3) X.env) :: starEach [] X.env:=by rfl) (hpl:(backTo pos (starEach [.Name y p3] X.env)).any (·.1)=false:=by rfl) :
  HE X a i (.Call (.Name "isinstance" p) [.Name n p2,.Name y p3] [] pos) (.bl b) :=
 (J2 (Aqr hp XC rc hc k) hg hm (by decide +kernel) (Br (pv i hN hv hd hcd) (Br hy Ea hs2) hs) (he:=hs) (hpl:=hpl)).imp λ σ H Q ⟨h1,h2⟩=>⟨_,h1,rfl,h2⟩
theorem Yz (hp:Pnd X a C) (XC:XCls X.K C) (hg:Gl X "isinstance") (hm:X.mg "isinstance"=none) {D:Addr}(hgy:Gl X y) (hy:X.mg y=some (.ref D)) (k:kitOne X.K (.ref C) (.ref D)=some b) (hdy:(y == ("__debug__":Str))=false:=by decide)
  (hN:X.N[i]?=some n:=by rfl) (hv:Vis X.env.scope n:=by first|exact Or.inl rfl|exact Or.inr (Or.inl rfl)|exact Or.inr (Or.inr rfl)) (hd:(n == ("__debug__":Str))=false:=by decide) (hcd:(n == ("__classdict__":Str))=false:=by decide)
  (hs:starEach [.Name n p2,.Name y p3] X.env=(false,eval (.Name n p2) X.env) :: starEach [.Name y p3] X.env:=by rfl) (hs2:starEach [.Name y p3] X.env=(false,eval (.Name y p3) X.env) :: starEach [] X.env:=by rfl) (hpl:(backTo pos (starEach [.Name y p3] X.env)).any (·.1)=false:=by rfl) :
  HE X a i (.Call (.Name "isinstance" p) [.Name n p2,.Name y p3] [] pos) (.bl b) :=
 Ac8 hp XC hg hm (c:=.ref D) (cv:=.ref D) rfl (λ _ h=>h) k (Kq hgy hy rfl hdy) hN hv hd hcd hs hs2 hpl
theorem Aj5 (T:String) (hp:Pnd X a C) (XC:XCls X.K C) (hg:Gl X "isinstance") (hm:X.mg "isinstance"=none) (hgy:Gl X y) (hy:X.mg y=none) (k:kitOne X.K (.ref C) (.type T)=some b) (hb:bootBuiltins y=some (.type T):=by decide +kernel) (hny:y≠"__name__":=by decide) (hdy:(y == ("__debug__":Str))=false:=by decide)
  (hN:X.N[i]?=some n:=by rfl) (hv:Vis X.env.scope n:=by first|exact Or.inl rfl|exact Or.inr (Or.inl rfl)|exact Or.inr (Or.inr rfl)) (hd:(n == ("__debug__":Str))=false:=by decide) (hcd:(n == ("__classdict__":Str))=false:=by decide)
  (hs:starEach [.Name n p2,.Name y p3] X.env=(false,eval (.Name n p2) X.env) :: starEach [.Name y p3] X.env:=by rfl) (hs2:starEach [.Name y p3] X.env=(false,eval (.Name y p3) X.env) :: starEach [] X.env:=by rfl) (hpl:(backTo pos (starEach [.Name y p3] X.env)).any (·.1)=false:=by rfl) :
  HE X a i (.Call (.Name "isinstance" p) [.Name n p2,.Name y p3] [] pos) (.bl b) :=
 Ac8 hp XC hg hm (c:=.type T) (cv:=.ty T) rfl (λ _ h=>h) k (Yh hgy hy hb rfl hny hdy) hN hv hd hcd hs hs2 hpl
theorem Ab5 (hg:Gl X "int") (hm:X.mg "int"=none) (h:HE X a i e (.bl b)) (hs:starEach [e] X.env=(false,eval e X.env) :: starEach [] X.env:=by rfl) (hpl:(backTo pos (starEach [] X.env)).any (·.1)=false:=by rfl) :
  HE X a i (.Call (.Name "int" p) [e] [] pos) (.int (if b then 1 else 0)) :=
 (Qd Q9 hg hm (by decide +kernel) (Br h Ea hs) (he:=hs) (hpl:=hpl)).imp λ σ H Q ⟨q1,q2⟩=>⟨q1,.inr ⟨b,rfl,q2⟩⟩
theorem Ze (h:HE X a i e (.bl b)) (he:∀ whole,isTrue e X.env whole=(do let v ← whole;standAt e.pos;holding [v] (truthy v)):=by intro _;rfl):HT X a i e b :=
 (Ade h he).imp λ σ H Q ⟨q1,q2⟩=>⟨q1,b,rfl,q2⟩
theorem Aiu (h:HE X a i e v):HS X a i (.Return (some e) pos :: rest) v:=(J1 (Adi h) (u:=Ur) Jb).imp λ D σ H z=>z
theorem Aox (h:HT X a i e true) (h1:HS X a i sts v):HS X a i (.If e sts [] pos :: rest) v:=(J1 (Aee h h1 Jb) (u:=Ur) Jb).imp λ D σ H ⟨q1,q2⟩=>⟨q1,q1,q2⟩
theorem Aie (h:HT X a i e false) (h1:HS X a i rest v):HS X a i (.If e sts [] pos :: rest) v:=(J1 (Aee h Jb Xv) h1).imp λ D σ H ⟨q1,q2⟩=>⟨q1,q1,q2⟩
end
end M

set_option Elab.async false
set_option linter.all false
set_option maxRecDepth 100000
namespace M
open PySem PySem.W PySem.Spec PyProof.Rows L2 PySem.Calls
section
variable {X:Cx}{pins:List (Addr × Obj)}{σ:L2.St}{H H':Hp}{s s':Shared}{B h':Heap}{C e:Addr}{o:Obj}
theorem Y8 {M:Model}{A:Around}{E:Value->Shared->Prop}{i:Nat}{n:Str}{pos:Pos}{Q:Unit->Shared->Prop}(I:Inv X pins σ H s) (hN:X.N.Nodup) (hi:X.N[i]?=some n) (hl:X.env.kindOf n=some .local) (h:∀ s',Inv X pins (σ.set i none) H s'->Q () s') :
  wpAny M A (do bindName X.env n .none;unbindBehindTheSuite X.env n pos) Q E s:=by
 obtain⟨m,hn,hlk⟩:=id I.loc
 refine wpAny_nameGoes_keeps hl hn (by rw [I.ok.kind];rfl) λ h' v hn' hs=>h _ ?_
 have lt:∀ b o,X.s₀.heap.get? b=some o->b≠X.env.locals:=λ b o z=>Nat.ne_of_lt (Nat.lt_of_lt_of_le (Heap.lt_size z) I.ok.above)
 have hiσ:i<σ.length:=by rw [I.len];exact (List.getElem?_eq_some_iff.mp hi).1
 refine⟨I.ok,I.os,I.bare,⟨λ b o z n hb hx=>(hs.2 b (lt b o z)).trans (I.base.keep b o z n hb hx),λ b o z n hb hx=>?_,I.base.free,λ b o z hx=>?_,I.base.tups,I.base.frzs,I.base.tbls⟩,⟨_,hn',λ j y w e1 e2 e3=>?_⟩,λ y c z=>?_,I.free,I.freeC,λ p hp=>?_,λ b u z=>?_,by rw [List.length_set];exact I.len⟩
 ·obtain⟨sl,q⟩:=I.base.slot b o z n hb hx
  exact⟨sl,(hs.2 b (lt b o z)).trans q⟩
 ·obtain⟨o',q⟩:=I.base.there b o z hx
  exact⟨o',(hs.2 b (lt b o z)).trans q⟩
 ·by_cases hj:j=i
  ·subst hj
   rw [List.getElem?_set_self hiσ] at e2
   cases e2
  ·rw [List.getElem?_set_ne (Ne.symm hj)] at e2
   obtain⟨u,r,q⟩:=hlk j y w e1 e2 e3
   refine⟨u,r,?_⟩
   rcases q with ⟨k,q⟩|⟨k,c,q,z⟩
   ·have ne:y≠n:=λ q=>hj (Og hN e1 (q ▸ hi))
    exact .inl ⟨k,by simp [ne,q]⟩
   ·exact .inr ⟨k,c,q,z.sameBut hs (I.cne y c q)⟩
 ·obtain⟨w,q⟩:=I.cell y c z
  exact⟨w,q.sameBut hs (I.cne y c z)⟩
 ·obtain⟨q,a1,a2,a3⟩:=I.pin p hp
  exact⟨(hs.2 p.1 a2).trans q,a1,a2,a3⟩
 ·refine (I.hok b u z).stay (λ c v hc q=>(hs.2 c ?_).trans q) (λ _ q=>q) λ _ _ q=>q
  intro ec
  have fr:=I.free
  rw [<-ec] at fr
  rcases hc with rfl|hc
  ·rw [fr] at z;cases z
  ·rw [fr] at hc;cases hc
theorem Fly.here (I:Inv X pins σ H s) (F:Fly X.prog X.w X.stack H s C e H' s') (c2:∀ b o,s.heap.get? b=some o->H b=none->b∉frs X.stack->B.get? b=some o) (c3:∀ b u o,H' b=some u->s'.heap.get? b=some o->B.get? b=some o) (k:B.StaysIn h') (up:s'.heap.UpToSlots h'):Inv X pins σ H' { s' with heap:=h' }:=by
 have no:∀ b:Addr,b∉([]:List Addr):=λ b=>by simp
 have sl:∀ b o,s.heap.get? b=some o->H b=none->b∈frs X.stack->∃ sl,h'.get? b=some { o with slots:=sl }:=λ b o q n hb=>by
  obtain⟨sl,e⟩:=F.un.slot b o q n hb (no b)
  obtain⟨_,o',ho',hd⟩:=I.stack.mem hb
  rw [q] at ho';cases ho'
  obtain⟨sl',e'⟩:=up b { o with slots:=sl } e hd
  exact⟨sl',e'⟩
 refine I.call' (s':={ s' with heap:=h' }) (ch:=[]) F.os ⟨λ b o q n hb _=>k b o (c2 b o q n hb),λ b o q n hb _=>sl b o q n hb,F.un.free,λ b o q _=>?_,F.un.tups,F.un.frzs,F.un.tbls⟩ (O1 F.hok c3 k) F.bare (λ b z=>absurd z (no b))
 cases n:H b with
 | none =>
  by_cases hb:b∈frs X.stack
  ·obtain⟨_,e⟩:=sl b o q n hb;exact⟨_,e⟩
  ·exact⟨o,k b o (c2 b o q n hb)⟩
 | some u =>
  obtain⟨ob,e⟩:=Uq (F.hok b u (F.same b u n))
  exact⟨ob,k _ _ (c3 b u ob (F.same b u n) e)⟩
noncomputable abbrev hcx (X:Cx) (e:Addr) (o:Obj):Cx:={ X with A:=X.A.mark (some (.ref e)),calm:=false,pn:=(e,o) :: X.pn,xe:=λ _ _=>False }
theorem Yp {vs:Array Value}(I:Inv X pins σ H s) (h1:s.heap.get? e=some o) (h2:H e=none) (h3:o.data=.fields vs):Inv (hcx X e o) pins σ H s:=by
 have nL:e≠X.env.locals:=λ z=>by
  obtain⟨m,⟨o',es,ep,ho,hd,_⟩,_⟩:=I.loc
  rw [<-z,h1] at ho;cases ho
  rw [h3] at hd;cases hd
 have nF:e∉X.fs:=λ z=>by
  obtain⟨_,o',ho,hd⟩:=I.funs.mem z
  rw [h1] at ho;cases ho
  exact hd vs h3
 have ok:=I.ok
 refine⟨⟨ok.mod,ok.kind,ok.glob,ok.blt,ok.above,ok.inj,ok.has,ok.cab,λ z=>(nomatch (show false=true from z)),ok.frames,ok.stk,ok.exf,ok.bs,ok.bsz,ok.noex,ok.exfs,ok.funs,ok.frf⟩,I.os,I.bare,I.base,I.loc,I.cell,I.free,I.freeC,λ p hp=>?_,I.hok,I.len⟩
 rcases List.mem_append.mp hp with hp|hp
 ·rcases List.mem_cons.mp hp with rfl|hp
  ·exact⟨h1,h2,nL,nF,λ v q=>by rw [h3] at q;cases q⟩
  ·exact I.pin p (List.mem_append_left _ hp)
 ·exact I.pin p (List.mem_append_right _ hp)
theorem Yd (ok:X.Ok) (I:Inv (hcx X e o) pins σ H s):Inv X pins σ H s :=
 ⟨ok,I.os,I.bare,I.base,I.loc,I.cell,I.free,I.freeC,λ p hp=>I.pin p (by
  rcases List.mem_append.mp hp with hp|hp
  ·exact List.mem_append_left _ (List.mem_cons_of_mem _ hp)
  ·exact List.mem_append_right _ hp),I.hok,I.len⟩
end
noncomputable def SX (X:Cx) (G:Fc) (st:Stmt) (m:EX):Prop:=∀ (xe:Value->Shared->Prop) (pins:List (Addr × Obj)) (s:Shared) (σ:L2.St) (H:Hp) (D:Ends) (Ev:Ev),Inv X pins σ H s->Rel X.K G Ev σ H →
 Fin (m Ev) (T3 X.K G D) (λ c=>∀ H1 s1 H' s' e C,Inv X pins σ H1 s1->Same H H1->Fly X.prog X.w X.stack H1 s1 C e H' s'->X.mg (cname c)=some (.ref C)->xe (.ref e) s')->wpAny (model X.prog X.w) X.A (exec st X.env) (SP X pins D) xe s
section
variable {X:Cx}{G:Fc}{k j:Nat}{ps:List Str}{dn:List D->R D}{x:Str}{p pos pos':Pos}{e:Expr}{es:List Expr}{ma:Ev->R (List D)}
theorem Ai4 (C:CalE X.prog X.w X.K X.mg X.base x ps k dn) (hr:Room j X.A) (hk:k<=j) (hg:Gl X x) (ha:∀ G:Fc,(∀ c,¬ G.xc c)->SA X.nox G (e :: es) ma) (hdb:(x == ("__debug__":Str))=false:=by decide) (he:starEach (e :: es) X.env=(false,eval e X.env) :: starEach es X.env:=by rfl) (hpl:(backTo pos (starEach es X.env)).any (·.1)=false:=by rfl) :
  SX X G (.Return (some (.Call (.Name x p) (e :: es) [] pos)) pos') (Ey (Bj ps.length dn (M.calm ma))):=by
 obtain⟨f,fd,hm,hk',hb,F⟩:=C.ex
 intro xe pins s σ H D Ev I hrl fn
 refine wpAny_Return_some (thn (O9 (X:=X.wish xe) (Q:=D.rt) F (hr.mono hk) hg hm hk' hb ha (I.wish xe) hrl ((Fin.bind fn).mono λ d p v H' s z=>p v H' (hrl.base.trans s) (z.mono (Same.refl _) λ _ z=>.inl z)) (λ c H1 s1 H' s' e C z I1 sm F' hm'=>z H1 s1 H' s' e C I1.unwish sm F' hm') hdb he hpl) ?_)
 rintro u s1 ⟨v,H1,I1,r,q⟩
 exact⟨v,σ,H1,I1.unwish,r,q⟩
theorem Ab8 {st:Stmt}{m:EX}(h:SX X G st m) (xe:Value->Shared->Prop) (pins:List (Addr × Obj)) (s:Shared) (σ:L2.St) (H:Hp) (D:Ends) (Ev:Ev) (I:Inv X pins σ H s) (hr:Rel X.K G Ev σ H)
  (f:Fin (m Ev) (T3 X.K G D) (λ c=>∀ H1 s1 H' s' e C,Inv X pins σ H1 s1->Same H H1->Fly X.prog X.w X.stack H1 s1 C e H' s'->X.mg (cname c)=some (.ref C)->xe (.ref e) s')):wpAny (model X.prog X.w) X.A (execs [st] X.env) (SP X pins D) xe s:=by
 refine wpAny_execs_cons (thn (h xe pins s σ H D Ev I hr f) λ fl s1 q=>?_)
 cases fl with
 | next=>exact wpAny_execs_nil q
 | ret v=>exact q
 | brk=>exact q
 | cont=>exact q
end
end M

set_option Elab.async false
set_option linter.all false
set_option maxRecDepth 100000
namespace M
open PySem PySem.W PySem.Spec PyProof.Rows L2 PySem.Calls
noncomputable def Afe (m:EX) (hd:Nat->Option D):EX:=λ E=>match m E with
 | .er c=>match hd c with
  | some d=>.ok (.rt d)
  | none=>.no
 | r=>r
structure Took (X:Cx) (i:Nat) (D:Addr) (sts:List Stmt) (hd:Nat->Option M.D):Prop where
 at_:∀ c d C e o vs,hd c=some d->X.mg (cname c)=some (.ref C)->o.cls=.ref C->o.data=.fields vs->mroIn X.K C (.ref D)=some true/\∃ v,HS (hcx X e o) e i sts v/\∀ K H O,Rp K H O d v
section
variable {X:Cx}{G:Fc}
theorem Ahi {i:Nat}{b₀ b₁:Stmt}{suite:List Stmt}{x n:Str}{D:Addr}{np hpos pos:Pos}{m:EX}{hd:Nat->Option M.D}(hb:SX X G b₀ m) (hk:Took X i D (b₁ :: suite) hd) (hN:X.N.Nodup) (hstk:X.stack=X.env :: X.outer) (hf:X.env.frame=some X.env.locals) (hg:Gl X x) (hm:X.mg x=some (.ref D)) (XD:XTop X.K D)
  (hi:X.N[i]?=some n:=by rfl) (hl:X.env.kindOf n=some .local:=by rfl) (hlo:Loc X.env.scope n:=by first|exact Or.inl rfl|exact Or.inr rfl) (hfn:X.fn n=true\/X.env.scope.names.lookup n=some .local:=by first|exact .inl rfl|exact .inr rfl) (hdb:(x == ("__debug__":Str))=false:=by decide) :
  SS X G (.Try [b₀] [.ExceptHandler (some (.Name x np)) (some n) (b₁ :: suite) hpos] [] [] pos) (Afe m hd):=by
 rintro pins s σ H Dn I ⟨Ev,hr,f⟩
 refine wpAny_Try_except (wpAny_mono (Ab8 hb (λ e s₁=>wpAny (model X.prog X.w) X.A (noteFrame e X.env) (λ _ s₂=>wpAny (model X.prog X.w) X.A (setFlight e none) (λ _ s₃=>wpAny (model X.prog X.w) X.A (handleBy e X.env [.ExceptHandler (some (.Name x np)) (some n) (b₁ :: suite) hpos]) (SP X pins Dn) X.xe s₃) X.xe s₂) X.xe s₁) pins s σ H Dn Ev I hr ?_) ?_ λ _ _ z=>z)
 ·unfold Afe at f
  cases em:m Ev with
  | ok a=>rw [em] at f;exact f
  | no=>rw [em] at f;exact f
  | er c =>
   rw [em] at f
   dsimp only at f
   cases eh:hd c with
   | none=>rw [eh] at f;exact f.elim
   | some d =>
    rw [eh] at f
    show ∀ _,_
    intro H1 s1 H' s' e C I1 sm F hmc
    obtain⟨B,t,fl,c2,c3⟩:=F.fl
    have fl':Heap.FlyingW B (X.env :: X.outer) e (.ref C) (.ref t) s'.heap:=by rw [<-hstk];exact fl
    refine wpAny_looks_onW (I.ok.frames.trans (by rw [hstk])) hf fl' λ h₄ hheld₄ hsm₄=>?_
    refine wpAny_landsW hheld₄ λ h₅ hfl₅ hsm₅=>?_
    have J5:=F.here I1 c2 c3 hfl₅.1 (hsm₄.trans hsm₅)
    obtain⟨oe,vs,hoe,hcl,hda,_⟩:=hfl₅.first
    have J5h:=Yp J5 hoe F.fr hda
    refine wpAny_handleBy_cons (codeAny_handlers_test (Kz J5h hg hm ?_ hdb)) (by intro q;cases q)
    refine Z4 J5.kIn XD hoe hcl (hk.at_ c d C e oe vs eh hmc hcl hda).1 ?_
    refine codeAny_handlers_suite_as ?_
    refine lands_againW hfl₅ λ h₆ hfl₆ hsm₆=>?_
    have J6:=F.here I1 c2 c3 hfl₆.1 ((hsm₄.trans hsm₅).trans hsm₆)
    obtain⟨o6,vs6,ho6,hc6,hd6,_⟩:=hfl₆.first
    have J6h:=Yp J6 ho6 F.fr hd6
    obtain⟨_,v,hs,hrp⟩:=hk.at_ c d C e o6 vs6 eh hmc hc6 hd6
    refine Oe (X:=hcx X e o6) (v:=.ref e) J6h hN hi hlo rfl (λ s7 I7=>?_) hfn
    have hiσ:i<σ.length:=by rw [I.len];exact (List.getElem?_eq_some_iff.mp hi).1
    refine wpAny_mono (hs pins s7 _ H' ⟨λ _ _=>False,λ w H8=>w=v/\H8=H',λ _ _=>False,λ _ _=>False⟩ I7 ⟨List.getElem?_set_self hiσ,rfl,rfl⟩) ?_ λ _ _ z=>False.elim z
    intro fl8 s8 q8
    cases fl8 with
    | next=>obtain⟨_,_,_,z⟩:=q8;exact z.elim
    | brk=>obtain⟨_,_,_,z⟩:=q8;exact z.elim
    | cont=>obtain⟨_,_,_,z⟩:=q8;exact z.elim
    | ret u =>
     obtain⟨v',σ8,H8,I8,r8,rfl,rfl⟩:=q8
     refine Y8 (X:=hcx X e o6) I8 hN hi hl λ s9 I9=>?_
     exact⟨_,_,_,Yd I.ok I9,r8,f _ _ ((hr.base.trans sm).trans F.same) (hrp _ _ _)⟩
 ·intro fl s1 q
  cases fl with
  | next=>exact wpAny_execs_nil q
  | ret v=>exact q
  | brk=>exact q
  | cont=>exact q
end
theorem Abe {K:PySem.W.Frag}{C:Addr}:kitOne K (.ref C) (.ref C)=some true:=by
 unfold kitOne
 rw [if_pos (beq_self_eq_true _)]
theorem Xh {K:PySem.W.Frag}{C D:Addr}{b:Bool}(t:XTop K D) (ne:C≠D) (k:mroIn K C (.ref D)=some b):kitOne K (.ref C) (.ref D)=some b:=by
 obtain⟨c,d,cd,sl,ho⟩:=t.obj
 have h1:(clsIn K D).isSome=true:=by unfold clsIn;rw [ho];rfl
 have h2:(Value.ref C == Value.ref D)=false:=Bool.eq_false_iff.mpr λ q=>ne (Value.ref.inj (beq_iff_eq.mp q))
 unfold kitOne
 rw [if_neg (by rw [h2];decide)]
 unfold kitCls
 dsimp only
 rw [if_pos (by rw [h1,t.ty];exact beq_self_eq_true _)]
 exact k
theorem Ae6 {K:PySem.W.Frag}{C:Addr}{b:Bool}(T:String) (hT:kitMeta T=true) (k:mroIn K C (.type T)=some b):kitOne K (.ref C) (.type T)=some b:=by
 unfold kitOne
 rw [if_neg (by simp)]
 unfold kitCls
 dsimp only
 rw [if_pos hT]
 exact k
theorem xtop_mk {K:PySem.W.Frag}{C:Addr}(ga:findIn K (.ref C) "__getattribute__"=some (some (.builtin "BaseException.__getattribute__"))) (gn:findIn K (.ref C) "__getattr__"=some none) (cl:findIn K (.ref C) "__class__"=some (some (.builtin "object.__class__")))
  (be:mroIn K C (.type "BaseException")=some true) (ob:mroIn K C (.type "object")=some true) (ty:typeIn K (.ref C)=some (.type "type")):XTop K C:=⟨⟨ga,gn,cl,be,ob⟩,ty⟩
end M

set_option Elab.async false
set_option linter.all false
set_option maxRecDepth 100000
namespace M
open PySem PySem.W PySem.Spec PyProof.Rows L2 PySem.Calls
noncomputable def Akf (dn:List D->R D):List D->R D:=λ ds=>match dn ds with
 | .ok d=>.ok d
 | _=>.no
end M

set_option Elab.async false
set_option linter.all false
set_option maxRecDepth 100000
namespace M
open PySem PySem.W PySem.Spec PyProof.Rows L2 PySem.Calls
theorem Ik:∀ {ns:List Int}{its:List Value},Vals (ns.map V.int) its->∃ xs:List (Int × Tok),its=xs.map (λ p=>.int p.1 p.2)/\xs.map (·.1)=ns
 | [],its,h=>by cases h;exact⟨[],rfl,rfl⟩
 | n :: ns,its,h=>by
  cases h with
  | cons a b =>
   obtain⟨t,rfl⟩:=a
   obtain⟨xs,rfl,rfl⟩:=Ik b
   exact⟨(n,t) :: xs,rfl,rfl⟩
noncomputable def nums:List D->Option (List Int)
 | []=>some []
 | .int b :: r=>(nums r).map (b :: ·)
 | _ :: _=>none
@[simp] theorem Abw:∀ bs:List Int,nums (bs.map D.int)=some bs
 | []=>rfl
 | n :: ns=>by simp [nums,Abw ns]
noncomputable def As8:D->Option D
 | .lst ds=>(nums ds).map λ bs=>.int bs.sum
 | _=>none
noncomputable def Ate:D->D->Option D
 | .int i,.int j=>if 0<=j/\j<=1000/\i.natAbs<2 ^ 63 then some (.int (i * 2 ^ j.toNat)) else none
 | _,_=>none
section
variable {X:Cx}{G:Fc}{e a b:Expr}{m ma mb:EV}{p pos:Pos}
end
end M

set_option Elab.async false
set_option linter.all false
set_option maxRecDepth 100000
namespace M
open PySem PySem.W PySem.Spec PyProof.Rows L2 PySem.Calls
noncomputable def Kw (b w:Int):Int:=Builtin.bitAnd b (-b) * (if w=0 then 3 else 513)
noncomputable def okI (b w:Int):Bool:=decide (Builtin.bitAnd b (Kw b w)=Kw b w)
noncomputable def WF:Nat->Int->Int
 | 0,_=>1
 | n+1,b=>if b=0 then 1 else (if okI b 0=true then WF n (b-Kw b 0) else 0)+(if okI b 1=true then WF n (b-Kw b 1) else 0)
noncomputable def Dp:Nat->Int->Prop
 | 0,b=>b=0
 | n+1,b=>b=0\/∀ w:Int,(w=0\/w=1)->okI b w=true->Dp n (b-Kw b w)
noncomputable def WM (b:Int):Int:=WF 40 b
noncomputable def Al4 (b w:Int):Int:=if okI b w=true then WM (b-Kw b w) else 0
noncomputable def Good (kvs:List (Key × V)):Prop:=∀ p∈kvs,∃ j:Int,p.1=.inl j/\p.2=.int (WM j)
noncomputable def spO (n:Nat):Sp:=λ vs H Q _=>∃ b k kvs,vs=[.int b,.ref k]/\H k=some (.dK kvs)/\Good kvs/\Dp n b/\n<=20/\kvs.length+2 ^ n<=2 ^ 21/\∀ kvs',Good kvs'->kvs'.length+1<=kvs.length+2 ^ n->Q (.int (WM b)) (upd H k (.dK kvs'))
noncomputable def dpB:Nat->Int->Bool
 | 0,b=>decide (b=0)
 | n+1,b=>decide (b=0) || ((!(okI b 0) || dpB n (b-Kw b 0)) && (!(okI b 1) || dpB n (b-Kw b 1)))
structure CalW (P:Program) (w:World) (K:PySem.W.Frag) (mg:Str->Option Value) (base:Heap) (k n:Nat):Prop where
 ex:∃ (f:Addr) (fd:FuncData),mg "ways_over"=some (.ref f)/\PySem.W.keepIn K (.ref f)=true/\Binds K fd ["bare","known"] []/\FnOk P w K mg base CX0 k f fd ["bare","known"] (spO n)
section
variable {X:Cx}{G:Fc}{e:Expr}{m:EV}{p pos dp:Pos}{j k n:Nat}
end
end M

set_option Elab.async false
set_option linter.all false
set_option maxRecDepth 100000
namespace M
open PySem PySem.W PySem.Spec PyProof.Rows L2 PySem.Calls
end M

set_option Elab.async false
set_option linter.all false
set_option maxRecDepth 100000
namespace M
open PySem PySem.W PySem.Spec PyProof.Rows L2 PySem.Calls
noncomputable def fsq (b:Int):Int × Int:=(((Builtin.Int.intBits (Builtin.bitAnd b (-b)):Int)-1) / 9,((Builtin.Int.intBits (Builtin.bitAnd b (-b)):Int)-1) % 9)
noncomputable def Aeu:Nat->Int->Int->Int->List D
 | 0,_,_,_=>[]
 | k+1,b,n,a=>if b=0 then [] else if n<a+Al4 b 0 then .tup [.int (fsq b).1,.int (fsq b).2,.int 0] :: Aeu k (b-Kw b 0) n a
  else .tup [.int (fsq b).1,.int (fsq b).2,.int 1] :: Aeu k (b-Kw b 1) n (a+Al4 b 0)
noncomputable def Asv (cf bo:List D->R D):List D->R D:=λ ds=>match ds with
 | [f,.int n]=>Akf cf [f] >>= λ _=>Akf bo [f] >>= λ d=>match d with
  | .int b=>if dpB 12 b=true then (if 0<=n/\n<WM b then .ok (.lst (Aeu 12 b n 0)) else .er 4) else .no
  | _=>.no
 | _=>.no
section
variable {X:Cx}
end
end M

set_option Elab.async false
set_option linter.all false
set_option maxRecDepth 100000
set_option maxHeartbeats 4000000
namespace HT
open PySem PyProof.Rows
section
open PySem.SeqAt
open PySem.AutoSeq1 (wpAny_loadPart')
open PySem.MeetsSeq PySem.MeetsSeq2 PySem.MeetsSeq3
noncomputable def Aip (n n2:Nat) (e lt:Nat->Bool):Nat->Nat->Bool
 | 0,_=>decide (n<n2)
 | k+1,i=>if i<n2 then (if e i=true then Aip n n2 e lt k (i+1) else lt i) else decide (n<n2)
end
section
variable {prog:Program}{w:World}{A:Around}{E:Value->Shared->Prop}{s:Shared}
end
end HT
namespace M
open PySem PySem.W PySem.Spec PyProof.Rows L2 PySem.Calls
noncomputable def Afg:List (List Int)->List (List Int)->Bool
 | [],[]=>false
 | [],_ :: _=>true
 | _ :: _,[]=>false
 | x :: xs,y :: ys=>if x=y then Afg xs ys else HT.lexLt x y
noncomputable def Aeg:List D->Option (List (List Int))
 | []=>some []
 | .tup ds :: r=>(nums ds).bind λ a=>(Aeg r).map (a :: ·)
 | _ :: _=>none
noncomputable def As7 (dx dy:D):Option D:=match dx,dy with
 | .lst as,.lst bs=>(Aeg as).bind λ ns=>(Aeg bs).map λ ms=>.bl (Afg ns ms)
 | _,_=>none
end M

set_option Elab.async false
set_option linter.all false
set_option maxRecDepth 100000
namespace M
open PySem PySem.W PySem.Spec PyProof.Rows L2 PySem.Calls
noncomputable def Aon:Int->Int->List D->Option D
 | _,a,[]=>some (.int a)
 | b,a,.tup [_,_,.int w] :: r=>if (w=0\/w=1)/\dpB 12 b=true then Aon (b-Kw b w) (if w=1 then a+Al4 b 0 else a) r else none
 | _,_,_ :: _=>none
noncomputable def Atc (cl bo:List D->R D):List D->R D:=λ ds=>match ds with
 | [f,.lst gs]=>Akf cl [f,.lst gs] >>= λ _=>Akf bo [f] >>= λ d=>match d with
  | .int b=>if gs.length<=32 then ofO (Aon b 0 gs) else .no
  | _=>.no
 | _=>.no
end M

set_option Elab.async false
set_option linter.all false
set_option maxRecDepth 100000
namespace TS
open PySem PySem.SetTable
noncomputable def adv (mask:Nat) (p:Probe):Probe :=
 if p.more > 0 then { p with j:=p.j+1,more:=p.more-1 } else
 { p with j:=(leap mask p.i p.perturb).1,more:=runEnd mask (leap mask p.i p.perturb).1-(leap mask p.i p.perturb).1,i:=(leap mask p.i p.perturb).1,perturb:=(leap mask p.i p.perturb).2 }
@[simp] theorem Agw (t:SetTable) (p:Probe):t.advance p=adv t.mask p:=rfl
noncomputable def st (mask i pert:Nat):Probe:={ j:=i,more:=runEnd mask i-i,i:=i,perturb:=pert,dummy:=none }
noncomputable def pth (mask:Nat) (h:Int):Nat->Probe
 | 0=>st mask (bits h % (mask+1)) (bits h)
 | n+1=>adv mask (pth mask h n)
noncomputable def Amn (mask i:Nat):Nat:=(i * 5+1) % (mask+1)
noncomputable def iter (mask:Nat):Nat->Nat->Nat
 | 0,i=>i
 | r+1,i=>Amn mask (iter mask r i)
noncomputable def Msk (mask:Nat):Prop:=mask=7\/mask=31\/mask=127
end TS

set_option Elab.async false
set_option linter.all false
set_option maxRecDepth 100000
namespace TS
open PySem PySem.SetTable
structure Inc (xs:Array Nat):Prop where
 lt:∀ a b (ha:a<xs.size) (hb:b<xs.size),a<b->xs[a]<xs[b]
structure TOk (t:SetTable) (hs:List Int):Prop where
 msk:Msk t.mask
 dum:t.dummies=#[]
 inc:Inc t.place
 len:t.place.size=hs.length
 bnd:∀ x∈t.place.toList,x<=t.mask
 path:∀ (i j:Nat) (h:Int),t.place.toList[i]?=some j->hs[i]?=some h->∃ n,n<10 * (t.mask+15)/\(pth t.mask h n).j=j/\∀ m,m<n->(pth t.mask h m).j∈t.place.toList
section
variable {t:SetTable}{hs:List Int}
end
end TS

set_option Elab.async false
set_option linter.all false
set_option maxRecDepth 100000
namespace TS
open PySem PySem.SetTable
noncomputable abbrev Own:=Array (Option Nat)
noncomputable def occ (o:Own) (j:Nat):Bool:=(o.getD j none).isSome
noncomputable def lives (mask:Nat) (o:Own):List (Nat × Nat):=(List.range (mask+1)).filterMap λ j=>(o.getD j none).map (j,·)
structure LOk (mask:Nat) (o:Own) (hs:List Int):Prop where
 size:o.size=mask+1
 live:((lives mask o).map (·.2)).Perm (List.range hs.length)
 path:∀ (j c:Nat) (h:Int),o.getD j none=some c->hs[c]?=some h->∃ n,n<10 * (mask+15)/\(pth mask h n).j=j/\∀ m,m<n->occ o (pth mask h m).j=true
end TS

set_option Elab.async false
set_option linter.all false
set_option maxRecDepth 100000
namespace TS
open PySem PySem.SetTable PyProof.Rows
section
variable {prog:Program}{w:World}{A:Around}{E:Value->Shared->Prop}{s:Shared}
noncomputable abbrev hT (prog:Program) (w:World) (k:List Int):Int:=tupleKeyHash (intKind prog w) k
noncomputable abbrev IsT (prog:Program) (w:World) (h:Heap) (k:List Int) (p:Addr):Prop:=IsTupleKey (intKind prog w) h k p
noncomputable def ent (prog:Program) (w:World) (q:List Int × Addr):Int × Value:=(hT prog w q.1,.ref q.2)
structure SetAt (prog:Program) (w:World) (h:Heap) (a:Addr) (o:Obj) (es:Array (Int × Value)) (ep:Nat) (t:SetTable) (ps:List (List Int × Addr)):Prop where
 get:h.get? a=some o
 ex:o.ExactSet
 data:o.data=.set es ep t
 ents:es.toList=ps.map (ent prog w)
 tab:TOk t (ps.map λ q=>hT prog w q.1)
 room:ps.length * 5<t.mask * 3
 plain:t.plain=true
 keys:∀ q∈ps,IsT prog w h q.1 q.2
 nd:(ps.map (·.1)).Nodup
variable {a:Addr}{o:Obj}{es:Array (Int × Value)}{ep:Nat}{t:SetTable}{ps:List (List Int × Addr)}
end
end TS

set_option Elab.async false
set_option linter.all false
set_option maxRecDepth 100000
set_option maxHeartbeats 4000000
namespace TS
open PySem PySem.SetTable PyProof.Rows
section
variable {prog:Program}{w:World}{A:Around}{R:Result->Shared->Prop}{I:Addr}{fp wr:List Addr}{G:Array GenState->Array GenState->Prop}{n:Nat}{P:Nat->Value->Prop}{St:Nat->Shared->Prop}
end
section
variable {prog:Program}{w:World}{A:Around}{E:Value->Shared->Prop}{s:Shared}
end
end TS

set_option Elab.async false
set_option linter.all false
set_option maxRecDepth 100000
set_option maxHeartbeats 4000000
namespace TS
open PySem PySem.SetTable PyProof.Rows PySem.W
section
variable {prog:Program}{w:World}{A:Around}{E:Value->Shared->Prop}{s:Shared}
variable {a:Addr}{o:Obj}{es:Array (Int × Value)}{ep:Nat}{t:SetTable}{ps:List (List Int × Addr)}
structure SetIt (prog:Program) (w:World) (h:Heap) (a:Addr) (o:Obj) (es:Array (Int × Value)) (ep:Nat) (t:SetTable) (ps:List (List Int × Addr)):Prop where
 get:h.get? a=some o
 ex:o.ExactSet
 data:o.data=.set es ep t
 size:es.size=ps.length
 tab:TOk t (ps.map λ q=>hT prog w q.1)
 fits:t.fits es.size=true
 plain:t.plain=true
end
end TS

set_option Elab.async false
set_option linter.all false
set_option maxRecDepth 100000
set_option maxHeartbeats 4000000
namespace TS
open PySem PySem.SetTable PyProof.Rows PySem.W
section
variable {prog:Program}{w:World}{A:Around}{E:Value->Shared->Prop}{s:Shared}
variable {a it:Addr}{o:Obj}{es:Array (Int × Value)}{ep:Nat}{t:SetTable}{ps:List (List Int × Addr)}
end
end TS

set_option Elab.async false
set_option linter.all false
set_option maxRecDepth 100000
set_option maxHeartbeats 4000000
namespace M
open PySem PySem.W PySem.Spec PyProof.Rows L2 PySem.Calls TS
noncomputable def dd:List (List Int)->List (List Int)
 | []=>[]
 | k :: r=>if k∈dd r then dd r else k :: dd r
structure SetOk (prog:Program) (w:World) (H:Hp) (es:Array (Int × Value)) (t:SetTable) (ps:List (List Int × Addr)) (ks:List (List Int)):Prop where
 led:t.led=(!w.params.followText "set-order")
 ents:es.toList=ps.map (ent prog w)
 keys:∀ q∈ps,H q.2=some (.tup (q.1.map V.int))
 mem:∀ k,k∈ps.map (·.1) ↔ k∈ks
 nd:(ps.map (·.1)).Nodup
 len:ps.length<=ks.length
theorem Iv {prog:Program}{w:World}:∀ {k:List Int}{its:List Value},Vals (k.map V.int) its->ItemsAre (intKind prog w) k its
 | [],_,h=>by cases h;exact .nil
 | n :: r,_,h=>by
  cases h with
  | cons h1 h2 =>
   obtain⟨tk,rfl⟩:=h1
   exact .cons (intKind_is _ _ _ _) (Iv h2)
section
variable {X:Cx}
end
noncomputable def Aku:D->Option D
 | .lst ds=>(Mq ds).bind λ ks=>if ks.length<60 then some (.lst ((Gk (dd ks)).map kT)) else none
 | _=>none
section
variable {X:Cx}{G:Fc}{p p2 pos pos2:Pos}{e:Expr}{m:EV}
end
end M

set_option Elab.async false
set_option linter.all false
set_option maxRecDepth 100000
namespace M
open PySem PySem.Spec PyProof.Rows L2
noncomputable abbrev or2 (pr:Addr->Prop) (a b:Addr):Addr->Prop:=orA (orA pr a) b
noncomputable abbrev off2 (H:Hp) (a b:Addr):Hp:=offA (offA H a) b
noncomputable def Ard (i:Nat) (m:EV):EX:=λ E=>match E[i]?,E[i+1]? with
 | some (.ow (.dic c)),some (.ow (.dic c'))=>m E >>= λ d=>.ok (.rt (.tup [d,.dic c,.dic c']))
 | _,_=>.no
section
variable {X:Cx}{G:Fc}{i:Nat}{a b:Addr}{st:Stmt}{rest:List Stmt}{m n:EX}{e:Expr}{me:EV}{pos:Pos}
end
section
variable {X:Cx}{G:Fc}{i:Nat}{a b:Addr}{iter tg:Expr}{body:List Stmt}{pos:Pos}{ts:List Nat}{set:D->Ev->Option Ev}{mi:Ev->R (List D)}{mb:EX}
end
noncomputable def spQ (K:PySem.W.Frag) (n:Nat) (dn:List D->Kvs->Kvs->R (D × Kvs × Kvs)):Sp:=λ vs H Q _=>vs.length=n/\∃ (pr:Addr->Prop) (ds:List D) (us:List V) (a b:Addr) (c c':Kvs),vs=us++[.ref a,.ref b]/\ds.length+2=n/\¬ pr a/\¬ pr b/\a≠b/\(∀ x,pr x->∃ o,H x=some o/\Ji o) ∧
 Rps K H (or2 pr a b) ds us/\Own K H (or2 pr a b) (.dic c) a/\Own K H (or2 pr a b) (.dic c') b/\Fin (dn ds c c') (λ p=>∀ v H',Same (off2 H a b) H'->Rp K H' (or2 pr a b) p.1 v->Own K H' (or2 pr a b) (.dic p.2.1) a->Own K H' (or2 pr a b) (.dic p.2.2) b->Q v H') λ _=>False
structure CalQ (P:Program) (w:World) (K:PySem.W.Frag) (mg:Str->Option Value) (base:Heap) (x:Str) (ps:List Str) (k:Nat) (dn:List D->Kvs->Kvs->R (D × Kvs × Kvs)):Prop where
 ex:∃ (f:Addr) (fd:FuncData),mg x=some (.ref f)/\PySem.W.keepIn K (.ref f)=true/\Binds K fd ps []/\FnOk P w K mg base CX0 k f fd ps (spQ K ps.length dn)
section
variable {P:Program}{w:World}{K:PySem.W.Frag}{mg:Str->Option Value}{base:Heap}{x qual:Str}{st:Stmt}{f:Addr}{fd:FuncData}{N ps:List Str}{k i:Nat}{m:EX}
end
noncomputable def Aqd (j j' n:Nat) (dn:List D->Kvs->Kvs->R (D × Kvs × Kvs)) (ma:Ev->R (List D)):Ev->R (Bool × Ev):=λ E=>match E[j]?,E[j']? with
 | some (.ow (.dic c)),some (.ow (.dic c'))=>ma E >>= λ ds=>if ds.length+2=n then dn ds c c' >>= λ p=>(match p.1 with
  | .bl k=>.ok (k,(E.set j (.ow (.dic p.2.1))).set j' (.ow (.dic p.2.2)))
  | _=>.no) else .no
 | _,_=>.no
section
variable {X:Cx}{G:Fc}{e:Expr}{es:List Expr}{me:EV}{ma:Ev->R (List D)}{j j':Nat}
end
end M

set_option Elab.async false
set_option linter.all false
set_option maxRecDepth 100000
namespace M
open PySem PySem.Spec PyProof.Rows L2
section
variable {prog:Program}{w:World}{A:Around}{s:Shared}{I S:Addr}{fp wr:List Addr}{P:Nat->Value->Prop}{St:Nat->Heap->Prop}{R:Result->Shared->Prop}
end
section
variable {prog:Program}{w:World}{A:Around}{E:Value->Shared->Prop}{s:Shared}
end
section
variable {X:Cx}{G:Fc}
noncomputable def Aqa:D->D->Option D
 | .tup a,.tup b=>do let x ← Fj a;let y ← Fj b;pure (if HT.lexLt y x=true then .tup b else .tup a)
 | _,_=>none
end
end M

set_option Elab.async false
set_option linter.all false
set_option maxRecDepth 100000
namespace M
open PySem PySem.Spec PyProof.Rows L2
noncomputable def Ite (K:PySem.W.Frag) (a:Addr):It :=
 ⟨λ i H=>∃ xs x,SqL K H a xs/\xs[i]?=some x,
  λ i H v H'=>∃ T x,v=.ref T/\H T=none/\H'=upd H T (.tup [.int (i:Nat),x])/\∀ xs,SqL K H a xs->xs[i]?=some x,
  λ i H=>∃ xs,SqL K H a xs/\i=xs.length⟩
noncomputable def Its (z:Str):It :=
 ⟨λ i H=>i<z.cps.size,
  λ i H v H'=>∃ T c,v=.ref T/\H T=none/\H'=upd H T (.tup [.int (i:Nat),.str ⟨#[c]⟩])/\z.cps[i]?=some c,
  λ i H=>i=z.cps.size⟩
section
variable {P:Program}{w:World}{K:PySem.W.Frag}{elts:List Expr}{k:Nat}{pos:Pos}
theorem Qo {X:Cx}{pins:List (Addr × Obj)}{s:Shared}{σ:St}{H:Hp}{E:Value->Shared->Prop}{e it:Addr}{fp:List Addr}{n i:Nat}{Pv:Nat->Value->Prop}{Sd:Nat->Heap->Prop}(I:Inv X pins σ H s) (D:Draws X.prog X.w X.A.in1 it fp n Pv Sd) (hei:e≠it) (hef:e∉fp) (hif:it∈fp)
  (hf:∀ b∈[e,it],Vf X pins H b) (hi:i<n) (he:∃ old,IsEnum s.heap e it i old) (hst:Sd i s.heap) (x:V) (hP:∀ u,Pv i u->RelV x u) (Qf:V->Hp->Heap->Prop)
  (q:∀ T h'',H T=none->(∃ old,IsEnum h'' e it ((i+1:Nat):Int) old)->Sd (i+1) h''->Qf (.ref T) (upd H T (.tup [.int (i:Nat),x])) h'') :
  wpAny (model X.prog X.w) X.A (pyNext (.ref e)) (λ r s1=>∃ u,r=some u ∧
   wpAny (model X.prog X.w) X.A (letOwnedTupleGo (.Tuple elts k pos) (.ref e) u) (λ _ s2=>∃ y H',Inv X pins σ H' s2/\RelV y u/\Qf y H' s2.heap/\∀ b∈[e,it],H' b=none) E s1) E s:=by
 have W:=WalksT.enumerateD D e hei hef hif
 have lte:e<s.heap.objs.size:=by obtain⟨old,q⟩:=he;exact Heap.lt_size q
 have lti:it<s.heap.objs.size:=by obtain⟨o,q⟩:=D.live _ _ hst;exact Heap.lt_size q
 refine W.item i s _ E hi ⟨he,hst⟩ λ T vals h' tk hv hT hTu hM hk=>?_
 obtain⟨t,u,hu,rfl⟩:=hv
 refine⟨.ref T,rfl,?_⟩
 have hap:=W.apart i T h' hM
 refine W.go elts k pos i T { s with heap:=h',toks:=tk } _ E hM λ h'' hst'' hk''=>?_
 have nT:H T=none:=I.hok.fresh hT
 obtain⟨oT,eT,cT,nn,dT⟩:=hTu
 have eT':=hk'' T oT hap eT
 have I':Inv X pins σ (upd H T (.tup [.int (i:Nat),x])) { s with heap:=h'',toks:=tk }:=J4 I hf (λ c o hc e=>hk'' c o hc (hk c o hc e)) hT
  ⟨by rw [sizeLine_eq];simp,[.int i t,u],.cons ⟨t,rfl⟩ (.cons (hP u hu) .nil),oT,eT',cT,nn,dT⟩
 refine⟨.ref T,_,I',rfl,q T h'' nT hst''.1 hst''.2,λ c hc=>?_⟩
 have hlt:c<s.heap.objs.size:=by
  rcases List.mem_cons.mp hc with e1|hc
  ·rw [e1];exact lte
  ·rw [List.mem_singleton.mp hc];exact lti
 rw [Ah (Nat.ne_of_lt (Nat.lt_of_lt_of_le hlt hT))]
 exact (hf c hc).1
theorem Qt {X:Cx}{pins:List (Addr × Obj)}{s:Shared}{σ:St}{H:Hp}{E:Value->Shared->Prop}{e it:Addr}{fp:List Addr}{n:Nat}{Pv:Nat->Value->Prop}{Sd:Nat->Heap->Prop}(I:Inv X pins σ H s) (D:Draws X.prog X.w X.A.in1 it fp n Pv Sd) (hei:e≠it) (hef:e∉fp) (hif:it∈fp)
  (hf:∀ b∈[e,it],Vf X pins H b) (he:∃ old,IsEnum s.heap e it n old) (hst:Sd n s.heap):wpAny (model X.prog X.w) X.A (pyNext (.ref e)) (λ r s1=>r=none/\Inv X pins σ H s1) E s:=by
 have W:=WalksT.enumerateD D e hei hef hif
 refine W.done s _ E ⟨he,hst⟩ λ h' tk k=>⟨rfl,?_⟩
 have nit:∀ b u,H b=some u->b∉[e,it]:=λ b u e q=>by rw [(hf b q).1] at e;cases e
 refine I.step (g':=s.gens) (d':=s.drawn) (ch:=[e,it]) (λ b hb=>?_) (λ b o _ _ hc e _=>k b o hc e) (λ b o _ _ hc e _=>⟨o.slots,k b o hc e⟩) (λ b ob _ e n=>n)
  (λ b o hc e=>⟨o,k b o hc e⟩) (λ b xs e=>e) (λ b u xs e=>e) (λ b ps e=>⟨#[],by rw [e];simp⟩) (λ m hm=>?_) (λ b u e=>?_) I.bare
 ·obtain⟨_,q1,q2,q3,q4,q5⟩:=hf b hb
  exact⟨q3,q1,q4,q5⟩
 ·obtain⟨ob,es,ep,ho,r⟩:=hm
  exact⟨ob,es,ep,k _ ob (λ z=>(hf _ z).2.1 rfl) ho,r⟩
 ·refine (I.hok b u e).stay (λ c v hc q=>k c v ?_ q) (λ c q=>q) λ c xs q=>q
  rcases hc with z|z
  ·rw [z];exact nit b u e
  ·exact nit c _ z
theorem Yi (a e it:Addr) (hei:e≠it) (hae:a≠e) (hai:a≠it):Turn P w K (.Tuple elts k pos) (Ite K a) [e,it] e (λ i h=>(∃ old,IsEnum h e it (i:Nat) old)/\h.IsListIter it a i) where
 mem:=by simp
 obj:=λ i h st c hc=>by
  obtain⟨⟨old,h1⟩,⟨o4,e4,c4,d4⟩⟩:=st
  rcases List.mem_cons.mp hc with rfl|hc
  ·exact⟨_,h1,λ v z=>nomatch z⟩
  ·rw [List.mem_singleton.mp hc];exact⟨_,e4,λ v z=>by rw [d4] at z;cases z⟩
 keep:=λ i h h' st k=>by
  obtain⟨⟨old,h1⟩,h2⟩:=st
  exact⟨⟨old,k e (by simp) _ h1⟩,h2.at λ o e=>k it (by simp) o e⟩
 item:=by
  intro X hP hw hK hc i pins s σ H E I hf st hg
  subst hP hw hK
  obtain⟨xs,x,hq,hx⟩:=hg
  obtain⟨its,rv,p1,hz⟩:=I.list hq
  obtain⟨u,hu,ru⟩:=rv.get hx
  have D:=Draws.list (prog:=X.prog) (w:=X.w) (A:=X.A.in1) (I.ok.hd hc) it a hai its.toArray
  refine (wpAny_mono (Qo (Qf:=λ y H' h''=>(Ite X.K a).yld i H y H'/\((∃ old,IsEnum h'' e it ((i+1:Nat):Int) old)/\h''.IsListIter it a (i+1))) I D hei (by simp [hei,Ne.symm hae]) (by simp) hf (by simpa using (List.getElem?_eq_some_iff.mp hu).1) st.1 ⟨st.2,p1.isList⟩ x (λ v hv=>?_) λ T h'' nT g1 g2=>⟨⟨T,x,rfl,nT,rfl,λ zs hzs=>by rw [I.list_inj hzs hq];exact hx⟩,g1,g2.1⟩) (λ r s1 ⟨u,e1,z⟩=>⟨u,e1,wpAny_mono z (λ _ s2 ⟨y,H',a1,a2,⟨a3,a4⟩,a5⟩=>⟨y,H',a1,a2,a3,a4,a5⟩) λ _ _ z=>z⟩) λ _ _ z=>z)
  have:its[i]?=some v:=by simpa using hv
  rw [hu] at this;cases this;exact ru
 done:=by
  intro X hP hw hK hc i pins s σ H E I hf st hg
  subst hP hw hK
  obtain⟨xs,hq,hi⟩:=hg
  obtain⟨its,rv,p1,hz⟩:=I.list hq
  have D:=Draws.list (prog:=X.prog) (w:=X.w) (A:=X.A.in1) (I.ok.hd hc) it a hai its.toArray
  have en:its.toArray.size=i:=by rw [hi,List.size_toArray,rv.length]
  exact Qt I D hei (by simp [hei,Ne.symm hae]) (by simp) hf (by rw [en];exact st.1) (by rw [en];exact⟨st.2,p1.isList⟩)
 self:=λ _ _ _ _ _ st h=>by
  obtain⟨⟨old,h1⟩,_⟩:=st
  exact wpAny_pyIter_enum h1 h
theorem Rv {A:Around}(hh:A.handled=none) (it:Addr) (x:Str) (t:Tok):Draws P w A it [it] x.cps.size (λ i v=>∃ c u,x.cps[i]?=some c/\v=.str ⟨#[c]⟩ u) (λ i h=>h.IsStrIter it (strIterType x) x t i):=by
 cases ha:x.cps.all (·<128)
 ·have e:strIterType x="str_iterator":=by simp [strIterType,ha]
  rw [e];exact Draws.strWide hh it x t
 ·have e:strIterType x="str_ascii_iterator":=by simp [strIterType,ha]
  rw [e];exact Draws.strAscii hh it x t
theorem V4 (z:Str) (t:Tok) (e it:Addr) (hei:e≠it):Turn P w K (.Tuple elts k pos) (Its z) [e,it] e (λ i h=>(∃ old,IsEnum h e it (i:Nat) old)/\h.IsStrIter it (strIterType z) z t i) where
 mem:=by simp
 obj:=λ i h st c hc=>by
  obtain⟨⟨old,h1⟩,⟨o4,e4,c4,d4⟩⟩:=st
  rcases List.mem_cons.mp hc with rfl|hc
  ·exact⟨_,h1,λ v z=>nomatch z⟩
  ·rw [List.mem_singleton.mp hc];exact⟨_,e4,λ v z=>by rw [d4] at z;cases z⟩
 keep:=λ i h h' st k=>by
  obtain⟨⟨old,h1⟩,⟨o4,e4,r4⟩⟩:=st
  exact⟨⟨old,k e (by simp) _ h1⟩,⟨o4,k it (by simp) _ e4,r4⟩⟩
 item:=by
  intro X hP hw hK hc i pins s σ H E I hf st hg
  subst hP hw hK
  have hg:i<z.cps.size:=hg
  have D:=Rv (P:=X.prog) (w:=X.w) (A:=X.A.in1) (I.ok.hd hc) it z t
  have hx:z.cps[i]?=some z.cps[i]:=by simp [hg]
  refine (wpAny_mono (Qo (Qf:=λ y H' h''=>(Its z).yld i H y H'/\((∃ old,IsEnum h'' e it ((i+1:Nat):Int) old)/\h''.IsStrIter it (strIterType z) z t (i+1))) I D hei (by simp [hei]) (by simp) hf hg st.1 st.2 (.str ⟨#[z.cps[i]]⟩) (λ v hv=>?_) λ T h'' nT g1 g2=>⟨⟨T,z.cps[i],rfl,nT,rfl,hx⟩,g1,g2⟩) (λ r s1 ⟨u,e1,z⟩=>⟨u,e1,wpAny_mono z (λ _ s2 ⟨y,H',a1,a2,⟨a3,a4⟩,a5⟩=>⟨y,H',a1,a2,a3,a4,a5⟩) λ _ _ z=>z⟩) λ _ _ z=>z)
  obtain⟨c,u,hc,rfl⟩:=hv
  rw [hx] at hc;cases hc
  exact⟨u,rfl⟩
 done:=by
  intro X hP hw hK hc i pins s σ H E I hf st hg
  subst hP hw hK
  have hg:i=z.cps.size:=hg
  subst hg
  exact Qt I (Rv (P:=X.prog) (w:=X.w) (A:=X.A.in1) (I.ok.hd hc) it z t) hei (by simp [hei]) (by simp) hf st.1 st.2
 self:=λ _ _ _ _ _ st h=>by
  obtain⟨⟨old,h1⟩,_⟩:=st
  exact wpAny_pyIter_enum h1 h
end
section
variable {X:Cx}{G:Fc}{a:Expr}{p pos tpos:Pos}{elts:List Expr}{tk:Nat}
noncomputable def Ar4 (K:PySem.W.Frag) (ta:TA):TI:=λ σ H Rr=>ta σ H λ vs H1=>(∃ a,vs=[.ref a]/\(∃ xs,SqL K H1 a xs)/\Rr (Ite K a) H1)\/∃ z,vs=[.str z]/\Rr (Its z) H1
theorem Ad9 {ta:TA}(hg:Gl X "enumerate") (hm:X.mg "enumerate"=none) (ha:PA X [a] ta) (hs:starEach [a] X.env=[(false,eval a X.env)]:=by rfl) :
  PI X (.Tuple elts tk tpos) (.Call (.Name "enumerate" p) [a] [] pos) (Ar4 X.K ta):=by
 intro pins s σ H Rr I h
 refine Call_ (Ls I hg hm boot_enumerate (PyProof.Rows.callWith_type1 (thn (ha pos pins s σ H _ I h) λ us s1 ⟨vs,H1,I1,r1,q1⟩=>?_) (by rw [hs];rfl) (by rfl)))
 have ge:∀ c∈[s1.heap.objs.size+1,s1.heap.objs.size],s1.heap.objs.size<=c:=λ c hc=>by
  rcases List.mem_cons.mp hc with rfl|hc
  ·exact Nat.le_add_right _ _
  ·rw [List.mem_singleton.mp hc];exact Nat.le_refl _
 rcases q1 with ⟨l,rfl,⟨xs,hx⟩,q⟩|⟨z,rfl,q⟩
 ·obtain⟨u,rfl,ru⟩:=vals1 r1
  cases ru
  obtain⟨its,rv,p1,hz⟩:=I1.list hx
  have hlt:l<s1.heap.objs.size:=by obtain⟨o,e,_⟩:=p1.isList;exact Heap.lt_size e
  refine call_enumerate_list p1.isList λ h' he hit hsz hk=>?_
  refine wpAny_pyIter_enum he ?_
  exact⟨_,[s1.heap.objs.size+1,s1.heap.objs.size],_,_,H1,rfl,I1.kept (t':=s1.toks) hk,Yi l _ _ (Nat.succ_ne_self _) (Nat.ne_of_lt (Nat.lt_succ_of_lt hlt)) (Nat.ne_of_lt hlt),⟨⟨_,he⟩,hit⟩,λ c hc=>I1.fpOk (ge c hc) (I1.hok.fresh (ge c hc)),q⟩
 ·obtain⟨u,rfl,ru⟩:=vals1 r1
  obtain⟨t,rfl⟩:=ru
  refine call_enumerate_str λ h' he hit hsz hk=>?_
  refine wpAny_pyIter_enum he ?_
  exact⟨_,[s1.heap.objs.size+1,s1.heap.objs.size],_,_,H1,rfl,I1.kept (t':=s1.toks) hk,V4 z t _ _ (Nat.succ_ne_self _),⟨⟨_,he⟩,hit⟩,λ c hc=>I1.fpOk (ge c hc) (I1.hok.fresh (ge c hc)),q⟩
noncomputable def Ac1 (ds:List D):List D:=ds.zipIdx.map λ p=>.tup [.int (p.2:Nat),p.1]
noncomputable def Ab2 (z:Str):List D:=z.cps.toList.zipIdx.map λ p=>.tup [.int (p.2:Nat),.str ⟨#[p.1]⟩]
noncomputable def iEn (m:EV):Ev->R (List D):=λ E=>m E >>= λ d=>match d with
 | .lst ds=>.ok (Ac1 ds)
 | .str z=>.ok (Ab2 z)
 | _=>.no
theorem Yw {m:EV}(hg:Gl X "enumerate") (hm:X.mg "enumerate"=none) (ha:SF X G a m) (hs:starEach [a] X.env=[(false,eval a X.env)]:=by rfl) :
  SI X G (.Tuple elts tk tpos) (.Call (.Name "enumerate" p) [a] [] pos) (iEn m) :=
 (Ad9 hg hm (Br ha Ea hs) hs).imp λ σ H Q z0=>z0.elim λ E z0=>z0.elim λ hr f=>⟨E,hr,(Fin.bind f).mono λ d p v H1 s1 z=>by
  cases d with
  | lst xs =>
   unfold Rp at z
   obtain⟨l1,vs,rfl,no1,h1,r1⟩:=z
   refine .inl ⟨l1,rfl,⟨vs,SqL.of h1⟩,p _ H1 s1 λ G' E' σ' H' le r'=>?_⟩
   have h1':=(locked le r' _ _ no1 h1).1
   refine⟨⟨vs,SqL.of h1',by unfold Ac1;rw [List.length_map,List.length_zipIdx,r1.length]⟩,λ i d hd=>?_⟩
   have hd':∃ dx,xs[i]?=some dx/\d=.tup [.int (i:Nat),dx]:=by
    unfold Ac1 at hd
    rw [List.getElem?_map,List.getElem?_zipIdx] at hd
    cases e1:xs[i]? with
    | none=>rw [e1] at hd;simp at hd
    | some dx=>rw [e1] at hd;simp at hd;exact⟨dx,rfl,hd.symm⟩
   obtain⟨dx,e1,rfl⟩:=hd'
   obtain⟨vx,hvx,px⟩:=r1.get e1
   refine⟨⟨vs,vx,SqL.of h1',hvx⟩,?_⟩
   rintro x H'' ⟨T,ux,ex,nT,eH,q1⟩
   subst ex eH
   have a1:=q1 vs (SqL.of h1')
   rw [hvx] at a1;cases a1
   refine⟨Ar nT,?_⟩
   unfold Rp
   refine⟨T,[.int (i:Nat),vx],rfl,r'.fresh nT,Aq,Rps.cons (by unfold Rp;rfl) (Rps.cons ?_ Rps.nil)⟩
   exact (px.move (locked le r')).mono (Ar nT) λ _ q=>q
  | str z' =>
   unfold Rp at z
   refine .inr ⟨z',by rw [z],p _ H1 s1 λ G' E' σ' H' le r'=>?_⟩
   refine⟨by show (Ab2 z').length=z'.cps.size;unfold Ab2;simp,λ i d hd=>?_⟩
   have hd':∃ c,z'.cps[i]?=some c/\d=.tup [.int (i:Nat),.str ⟨#[c]⟩]:=by
    unfold Ab2 at hd
    rw [List.getElem?_map,List.getElem?_zipIdx,Array.getElem?_toList] at hd
    cases e1:z'.cps[i]? with
    | none=>rw [e1] at hd;simp at hd
    | some c=>rw [e1] at hd;simp at hd;exact⟨c,rfl,hd.symm⟩
   obtain⟨c,e1,rfl⟩:=hd'
   refine⟨(Array.getElem?_eq_some_iff.mp e1).1,?_⟩
   rintro x H'' ⟨T,c',ex,nT,eH,q1⟩
   subst ex eH
   rw [e1] at q1;cases q1
   refine⟨Ar nT,?_⟩
   unfold Rp
   exact⟨T,[.int (i:Nat),.str ⟨#[c]⟩],rfl,r'.fresh nT,Aq,Rps.cons (by unfold Rp;rfl) (Rps.cons (by unfold Rp;rfl) Rps.nil)⟩
  | _=>exact p.elim⟩
end
end M

set_option Elab.async false
set_option linter.all false
set_option maxRecDepth 100000
namespace M
open PySem PySem.W PySem.Spec PyProof.Rows L2
noncomputable def Tc:List D->Option (List Str)
 | []=>some []
 | .str z :: r=>(Tc r).map λ zs=>z :: zs
 | _ :: _=>none
theorem Rm:∀ {ds:List D}{zs:List Str},Tc ds=some zs->ds=zs.map D.str
 | [],_,e=>by cases e;rfl
 | .str z :: r,_,e=>by
  simp only [Tc,Option.map_eq_some_iff] at e
  obtain⟨zs,e1,rfl⟩:=e
  rw [Rm e1];rfl
 | .non :: _,_,e=>by cases e
 | .bl _ :: _,_,e=>by cases e
 | .int _ :: _,_,e=>by cases e
 | .tup _ :: _,_,e=>by cases e
 | .lst _ :: _,_,e=>by cases e
 | .dic _ :: _,_,e=>by cases e
 | .scr _ :: _,_,e=>by cases e
theorem Uc {K:PySem.W.Frag}{H:Hp}{O:Addr->Prop}:∀ {zs:List Str}{vs:List V},Rps K H O (zs.map D.str) vs->vs=zs.map V.str
 | [],_,h=>by unfold Rps at h;exact h
 | z :: zs,_,h=>by
  rw [List.map_cons] at h
  unfold Rps at h
  obtain⟨v,r,rfl,p,q⟩:=h
  unfold Rp at p
  rw [p,Uc q];rfl
theorem Li {K:PySem.W.Frag}{H:Hp}{O:Addr->Prop}:∀ (zs:List Str),Rps K H O (zs.map D.str) (zs.map V.str)
 | []=>Rps.nil
 | z :: zs=>Rps.cons (by unfold Rp;rfl) (Li zs)
theorem Js:∀ {zs:List Str}{us:List Value},Vals (zs.map V.str) us->StrsAre us zs
 | [],_,.nil=>.nil
 | z :: zs,_,.cons ⟨t,e⟩ r=>by subst e;exact .cons z t (Js r)
theorem Qx:∀ (l:List (Str × Tok)),Vals ((l.map (·.1)).map V.str) (strValues l)
 | []=>.nil
 | (z,t) :: l=>.cons ⟨t,rfl⟩ (Qx l)
section
variable {X:Cx}
noncomputable def rJoin (K:PySem.W.Frag):V->List V->Hp->VK->Prop:=λ x xs H Q=>∃ sep p ys,x=.str sep/\xs=[.ref p]/\SqL K H p (ys.map V.str)/\sep.length<=16/\(ys.map (·.length)).sum+ys.length<=1048576/\Q (.str (Txt.join sep ys)) H
theorem Aev:MtR X "str.join" (rJoin X.K):=by
 rintro pins s σ H x xs v us Q I rx rv ⟨sep,p,ys,rfl,rfl,hp,h1,h2,q⟩
 obtain⟨t,rfl⟩:=rx
 obtain⟨u,rfl,ru⟩:=vals1 rv
 cases ru
 obtain⟨its,rv,pl,hz⟩:=I.list hp
 exact join_listW pl.isList (Js rv) h1 h2 λ t' k=>⟨.str _,H,I.tok _,⟨_,rfl⟩,q⟩
noncomputable def Ahp:V->List V->Hp->VK->Prop:=λ x xs H Q=>∃ z y,x=.str z/\xs=[.str y]/\(y.length == 0)=false/\z.length+2<=sizeLine/\(Txt.split z y).length<=sizeLine/\∀ l,H l=none->Q (.ref l) (upd H l (.lst ((Txt.split z y).map V.str)))
theorem Aau:MtR X "str.split" Ahp:=by
 rintro pins s σ H x xs v us Q I rx rv ⟨z,y,rfl,rfl,hy,hz,hlen,q⟩
 obtain⟨t,rfl⟩:=rx
 obtain⟨u,rfl,t',rfl⟩:=vals1 rv
 obtain⟨m,F⟩:=I.fr
 have N:News X.base X.env.locals s.heap (Lk X.base s.heap X.env.locals):=Aa3
 refine splitN1A F N hy (λ l h' k e a1 a2 hl F' N'=>?_) hz
 have nD:s.heap.get? s.heap.objs.size=none:=Heap.get?_none_of_le (Nat.le_refl _)
 have keepL:∀ b o,b≠X.env.locals->s.heap.get? b=some o->h'.get? b=some o:=λ b o hb e=>by
  cases g:X.base.get? b with
  | some o'=>have:=I.bk b o' g;rw [e] at this;cases this;exact F'.keep b _ g
  | none=>exact (N' (b,o) (List.mem_cons_of_mem _ (Sw hb g e))).1
 have hn:=(N' (s.heap.objs.size,{ cls:=.type "list",data:=.seq (strValues l).toArray }) List.mem_cons_self).1
 have len:l.length<=sizeLine:=by
  have h1:=congrArg List.length e
  rw [List.length_map] at h1
  rw [h1];exact hlen
 refine⟨.ref s.heap.objs.size,_,Vk (s':={ s with heap:=h',toks:=k }) (o:=.lst ((Txt.split z y).map V.str)) I F F' keepL nD ⟨by rw [<-e,List.length_map,List.length_map];exact len,strValues l,_,by rw [<-e];exact Qx l,hn⟩ rfl I.bare,rfl,q _ (I.hok.fresh (Nat.le_refl _))⟩
end
section
variable {X:Cx}{G:Fc}{o e:Expr}{mo m:EV}{apos cpos:Pos}
noncomputable def Acx:D->D->Option D
 | .str sep,.lst ds=>(Tc ds).bind λ ys=>if sep.length<=16/\(ys.map (·.length)).sum+ys.length<=1048576 then some (.str (Txt.join sep ys)) else none
 | _,_=>none
noncomputable def N6 (sep:Str) (m:EV):EV:=λ E=>m E >>= λ y=>ofO (Acx (.str sep) y)
theorem R3 {sep:Str}{j:Nat}{kpos:Pos}(he:SE X G e m) (hbase:attributeBase (.Constant (.str sep) j kpos) "join" X.env (eval (.Constant (.str sep) j kpos) X.env)=eval (.Constant (.str sep) j kpos) X.env:=by rfl)
  (hfew:((backTo cpos (starEach [e] X.env)).all (λ x=>!x.1) && (backToKw cpos (keywordEach [] X.env)).all (λ x=>x.1.isSome) && decide ([e].length+([]:List Keyword).length+(if ([]:List Keyword).isEmpty then 0 else 1)<30))=true:=by rfl)
  (hline:(apos.endLine == cpos.line)=true:=by rfl) (hs:starEach [e] X.env=(false,eval e X.env) :: starEach [] X.env:=by rfl) (hplain:(backTo cpos (starEach [] X.env)).any (·.1)=false:=by rfl) :
  SF X G (.Call (.Attribute (.Constant (.str sep) j kpos) "join" apos) [e] [] cpos) (N6 sep m) :=
 (Aa1 PySem.F.plainAttrs_str PySem.F.slot_str_join PySem.F.type_str_join Aev Uo (Br he Ea hs) hbase hfew hline hs hplain).imp λ σ H Q z0=>z0.elim λ E z0=>z0.elim λ hr h=>⟨rfl,E,hr,(Fin.bind h).mono λ dy fy w H2 s2 p2=>by
  obtain⟨d,e,q⟩:=Fin.of fy
  cases dy with
  | lst ds =>
   simp only [Acx,Option.bind_eq_some_iff] at e
   obtain⟨ys,e1,e2⟩:=e
   split at e2
   ·rename_i hc
    cases e2
    obtain⟨a,vs,rfl,h1,r1⟩:=p2.lst
    rw [Rm e1] at r1
    have:=Uc r1
    subst this
    exact⟨sep,a,ys,rfl,rfl,SqL.of h1,hc.1,hc.2,q _ H2 s2 (by unfold Rp;rfl)⟩
   ·cases e2
  | _=>cases e⟩
noncomputable def W7 (mo:EV) (y:Str):EV:=λ E=>mo E >>= λ x=>match x with
 | .str z=>if (y.length == 0)=false/\z.length<=1000000/\(Txt.split z y).length<=1000000 then .ok (.lst ((Txt.split z y).map D.str)) else .no
 | _=>.no
theorem Ab7 {y:Str}{j:Nat}{kpos:Pos}(ho:SE X G o mo) (hbase:attributeBase o "split" X.env (eval o X.env)=eval o X.env:=by rfl)
  (hfew:((backTo cpos (starEach [.Constant (.str y) j kpos] X.env)).all (λ x=>!x.1) && (backToKw cpos (keywordEach [] X.env)).all (λ x=>x.1.isSome) && decide ([Expr.Constant (.str y) j kpos].length+([]:List Keyword).length+(if ([]:List Keyword).isEmpty then 0 else 1)<30))=true:=by rfl)
  (hline:(apos.endLine == cpos.line)=true:=by rfl) (hs:starEach [.Constant (.str y) j kpos] X.env=(false,eval (.Constant (.str y) j kpos) X.env) :: starEach [] X.env:=by rfl) (hplain:(backTo cpos (starEach [] X.env)).any (·.1)=false:=by rfl) :
  SN X G (.Call (.Attribute o "split" apos) [.Constant (.str y) j kpos] [] cpos) (W7 mo y) :=
 (Aa1 PySem.F.plainAttrs_str PySem.F.slot_str_split PySem.F.type_str_split Aau ho (Br Uo Ea hs) hbase hfew hline hs hplain).imp λ σ H Q z0=>z0.elim λ E z0=>z0.elim λ hr h=>⟨E,hr,(Fin.bind h).mono λ dx fx v H1 s1 p1=>by
  cases dx with
  | str z =>
   dsimp only at fx
   split at fx
   ·rename_i hc
    rw [p1.str]
    refine⟨rfl,z,y,rfl,rfl,hc.1,by rw [sizeLine_eq];omega,by rw [sizeLine_eq];omega,λ l hl=>fx l _ (s1.trans (Ar hl)) ?_ ⟨_,Aq,Li _⟩⟩
    cases q:H l with
    | none=>rfl
    | some u=>rw [s1 _ _ q] at hl;cases hl
   ·exact fx.elim
  | _=>exact fx.elim⟩
end
end M

set_option Elab.async false
set_option linter.all false
set_option maxRecDepth 100000
namespace M
open PySem PySem.Spec PyProof.Rows L2
section
variable {prog:Program}{w:World}{A:Around}{E:Value->Shared->Prop}{s:Shared}
theorem Aat {it t:Addr}{i:Nat}{items:Array Value}{x:Value}{Q:Value->Shared->Prop}(hit:s.heap.IsTupleIter it t i) (ht:s.heap.IsTuple t items) (hx:items[i]?=some x)
  (hQ:∀ h',h'.IsTupleIter it t (i+1)->Heap.SameBut it s.heap h'->Q x { s with heap:=h' }):wpAny (model prog w) A (Builtin.SmallTypes.nextOf (.ref it)) Q E s:=by
 obtain⟨o,ho,hc,hd⟩:=id hit
 obtain⟨ol,hol,_,nl,hdl⟩:=ht
 unfold Builtin.SmallTypes.nextOf
 refine wpAny_bind (wpAny_callSpecial?_slot (name:=Str.ofString "__next__") hit.typeIs F.slot_tuple_iterator_next (wpAny_call_entry F.slot_tuple_iterator_next hit.typeIs F.entry_tuple_iterator_next ?_ (F.args_tuple_iterator_next_1 _)))
 show wpAny _ _ (field (.ref it) 0 >>= _) _ _ s
 refine wpAny_bind (wpAny_field ho hd (x:=.ref t) rfl ?_)
 show wpAny _ _ (if (Value.ref t == Value.none)=true then _ else _) _ _ s
 rw [if_neg (show ¬ ((Value.ref t == Value.none)=true) from Bool.false_ne_true)]
 show wpAny _ _ (field (.ref it) 1 >>= _) _ _ s
 refine wpAny_bind (wpAny_field ho hd (x:=.int i 0) rfl ?_)
 show wpAny _ _ (seqItems? (.ref t) >>= _) _ _ s
 refine wpAny_bind (wpAny_seqItems hol hdl ?_)
 simp only [Int.toNat_natCast,hx]
 refine wpAny_bind (wpAny_setField ho hd (by simp) (wpAny_pure ⟨x,rfl,wpAny_pure (hQ _ ?_ (Heap.SameBut.update ..))⟩))
 exact⟨_,Heap.get?_update_self _ ho (Obj.isFreed_of_fields (Obj.data_mapFields hd _)),(Obj.cls_mapFields ..).trans hc,by rw [Obj.data_mapFields hd];simp [rawInt]⟩
theorem Pr {it t:Addr}{i:Nat}{items:Array Value}{Q:Value->Shared->Prop}(hh:A.handled=none) (hit:s.heap.IsTupleIter it t i) (ht:s.heap.IsTuple t items) (hx:items[i]?=none)
  (hE:∀ h' e,Heap.ExtBut it s.heap h'->(∃ o,h'.get? e=some o/\o.cls=.type "StopIteration")->E (.ref e) { s with heap:=h' }):wpAny (model prog w) A (Builtin.SmallTypes.nextOf (.ref it)) Q E s:=by
 obtain⟨o,ho,hc,hd⟩:=id hit
 obtain⟨ol,hol,_,nl,hdl⟩:=ht
 unfold Builtin.SmallTypes.nextOf
 refine wpAny_bind (wpAny_callSpecial?_slot (name:=Str.ofString "__next__") hit.typeIs F.slot_tuple_iterator_next (wpAny_call_entry F.slot_tuple_iterator_next hit.typeIs F.entry_tuple_iterator_next ?_ (F.args_tuple_iterator_next_1 _)))
 show wpAny _ _ (field (.ref it) 0 >>= _) _ _ s
 refine wpAny_bind (wpAny_field ho hd (x:=.ref t) rfl ?_)
 show wpAny _ _ (if (Value.ref t == Value.none)=true then _ else _) _ _ s
 rw [if_neg (show ¬ ((Value.ref t == Value.none)=true) from Bool.false_ne_true)]
 show wpAny _ _ (field (.ref it) 1 >>= _) _ _ s
 refine wpAny_bind (wpAny_field ho hd (x:=.int i 0) rfl ?_)
 show wpAny _ _ (seqItems? (.ref t) >>= _) _ _ s
 refine wpAny_bind (wpAny_seqItems hol hdl ?_)
 simp only [Int.toNat_natCast,hx]
 refine wpAny_bind (wpAny_rule (wpAny_bind (wpAny_setField ho hd (by simp) ?_)))
 show wpAny _ _ (newExc (.type "StopIteration") [] >>= _) _ _ _
 refine wpAny_bind ?_
 simp only [newExc,newTuple]
 refine wpAny_bind (wpAny_newObj_type ?_ (by size_fits))
 refine wpAny_bind (m:=firstArgMember _ _) (wpAny_of_eq (a:=Value.none) (by first|rfl|(simp only [firstArgMember];rfl)) ?_)
 refine wpAny_newObj_type ?_ (by size_fits)
 simp only [raiseNew]
 refine wpAny_bind (wpAny_handled ?_)
 first|rw [show A.in1.handled=none from hh]|rw [hh]
 refine wpAny_bind (wpAny_pure (wpAny_throw ?_))
 exact hE _ _ (((Heap.SameBut.update ..).extBut.push _).push _) ⟨_,Heap.get?_push_size _ rfl,rfl⟩
theorem Rf (hh:A.handled=none) (it l:Addr) (hne:l≠it) (items:Array Value):Draws prog w A it [it,l] items.size (λ i v=>items[i]?=some v) (λ i h=>h.IsTupleIter it l i/\h.IsTuple l items) where
 live:=λ _ _ st=>let ⟨o,ho,_⟩:=st.1;⟨o,ho⟩
 frame:=λ _ _ _ st hk=>by
  obtain⟨⟨o,ho,r⟩,⟨o',ho',r'⟩⟩:=st
  exact⟨⟨o,hk it (by simp) o ho,r⟩,⟨o',hk l (by simp) o' ho',r'⟩⟩
 item:=λ i s Q E hi st hQ=>Aat st.1 st.2 (x:=items[i]) (by simp [hi]) λ h' hit' hs'=>hQ _ h' s.toks (by simp [hi]) ⟨hit',st.2.extBut hs'.extBut hne⟩ hs'
 done:=λ s Q E st hE=>Pr hh st.1 st.2 (by simp) hE
structure ZApart (z TI TO i1 i2:Addr) (f1 f2:List Addr):Prop where
 TIz:TI≠z
 TOz:TO≠z
 i1z:i1≠z
 i2z:i2≠z
 TITO:TI≠TO
 TIi1:TI≠i1
 TIi2:TI≠i2
 TOi1:TO≠i1
 TOi2:TO≠i2
 i12:i1≠i2
 z1:∀ b∈f1,b≠z/\b≠TO/\b≠i2
 z2:∀ b∈f2,b≠z/\b≠TO/\b≠i1
variable {z TI TO i1 i2:Addr}{f1 f2:List Addr}{n1 n2 k1 k2:Nat}{P1 P2:Nat->Value->Prop}{S1 S2:Nat->Heap->Prop}{a b:Value}
theorem Ach {Q:Value->Shared->Prop}(D:ZApart z TI TO i1 i2 f1 f2) (D1:Draws prog w A i1 f1 n1 P1 S1) (D2:Draws prog w A i2 f2 n2 P2 S2) (hz:IsZip s.heap z TI TO .none) (hTI:IsPair s.heap TI (.ref i1) (.ref i2)) (hTO:IsPair s.heap TO a b)
  (h1:S1 k1 s.heap) (h2:S2 k2 s.heap) (l1:k1<n1) (l2:k2<n2)
  (hQ:∀ x y h' tk,P1 k1 x->P2 k2 y->IsZip h' z TI TO (rawInt s.heap.objs.size)->IsPair h' TO x y->S1 (k1+1) h'->S2 (k2+1) h'->IsPair h' s.heap.objs.size x y->h'.objs.size=s.heap.objs.size+1 →
   (∀ c o,c≠z->c≠TO->c≠i1->c≠i2->s.heap.get? c=some o->h'.get? c=some o)->Q (.ref s.heap.objs.size) { s with heap:=h',toks:=tk }) :
  wpAny (model prog w) A (Builtin.«zip.__next__» ⟨[.ref z],[]⟩) (λ fin s'=>∃ v,fin=.done (.ret v)/\Q v s') E s:=by
 show wpAny _ _ (field (.ref z) 2 >>= _) _ _ _
 refine wpAny_bind (wpAny_field hz rfl (x:=.bool false) rfl ?_)
 show wpAny _ _ (field (.ref z) 3 >>= _) _ _ _
 refine wpAny_bind (wpAny_field hz rfl (x:=.ref TI) rfl ?_)
 refine wpAny_bind (wpAny_seqItems hTI rfl ?_)
 show wpAny _ _ (Builtin.SmallTypes.ownedTupleIsFree (.ref z) >>= _) _ _ _
 refine wpAny_bind ?_
 unfold Builtin.SmallTypes.ownedTupleIsFree
 refine wpAny_bind (wpAny_field hz rfl (x:=.none) rfl (wpAny_pure ?_))
 simp only [if_true]
 refine wpAny_bind (wpAny_rule ?_)
 refine wpAny_bind (wpAny_field hz rfl (x:=.ref TO) rfl ?_)
 refine wpAny_bind (wpAny_setField_rec hz (by simp) λ h₁ hz₁ hs₁=>?_)
 replace hz₁:IsZip h₁ z TI TO .ellipsis:=hz₁
 refine wpAny_bind ?_
 simp only [List.zipIdx_cons,List.zipIdx_nil,List.forIn_cons,List.forIn_nil]
 refine wpAny_bind (wpAny_bind (wpAny_onRaise ?_))
 show wpAny _ _ (Builtin.SmallTypes.nextOf (.ref i1) >>= _) _ _ _
 refine wpAny_bind (D1.item k1 _ _ _ l1 (D1.frame _ _ _ h1 λ c hc o e=>hs₁.extBut _ _ (D.z1 c hc).1 e) λ x h₂ tk₂ hx h1₂ hs₂=>wpAny_pure ?_)
 have hTO₂:IsPair h₂ TO a b:=hs₂.extBut _ _ D.TOi1 (hs₁.extBut _ _ D.TOz hTO)
 refine wpAny_bind (wpAny_seqItems hTO₂ rfl ?_)
 refine wpAny_bind (wpAny_updateSeq_pair hTO₂ λ h₃ hTO₃ hs₃=>?_)
 replace hTO₃:IsPair h₃ TO x b:=hTO₃
 refine wpAny_bind (wpAny_letGo (wpAny_pure ?_))
 refine wpAny_bind (wpAny_bind (wpAny_onRaise ?_))
 show wpAny _ _ (Builtin.SmallTypes.nextOf (.ref i2) >>= _) _ _ _
 refine wpAny_bind (D2.item k2 _ _ _ l2 (D2.frame _ _ _ h2 λ c hc o e=>hs₃.extBut _ _ (D.z2 c hc).2.1 (hs₂.extBut _ _ (D.z2 c hc).2.2 (hs₁.extBut _ _ (D.z2 c hc).1 e))) λ y h₄ tk₄ hy h2₄ hs₄=>wpAny_pure ?_)
 have hTO₄:IsPair h₄ TO x b:=hs₄.extBut _ _ D.TOi2 hTO₃
 refine wpAny_bind (wpAny_seqItems hTO₄ rfl ?_)
 refine wpAny_bind (wpAny_updateSeq_pair hTO₄ λ h₅ hTO₅ hs₅=>?_)
 replace hTO₅:IsPair h₅ TO x y:=hTO₅
 refine wpAny_bind (wpAny_letGo (wpAny_pure (wpAny_pure ?_)))
 refine wpAny_bind (wpAny_seqItems hTO₅ rfl ?_)
 refine wpAny_bind (wpAny_newTuple ?_)
 have hsz:h₅.objs.size=s.heap.objs.size:=by rw [hs₅.1,hs₄.1,hs₃.1,hs₂.1,hs₁.1]
 have hz₅:IsZip h₅ z TI TO .ellipsis:=hs₅.extBut _ _ D.TOz.symm (hs₄.extBut _ _ D.i2z.symm (hs₃.extBut _ _ D.TOz.symm (hs₂.extBut _ _ D.i1z.symm hz₁)))
 have hk₅:∀ c o,c≠z->c≠TO->c≠i1->c≠i2->s.heap.get? c=some o->h₅.get? c=some o:=λ c o c1 c2 c3 c4 e =>
  hs₅.extBut _ _ c2 (hs₄.extBut _ _ c4 (hs₃.extBut _ _ c2 (hs₂.extBut _ _ c3 (hs₁.extBut _ _ c1 e))))
 have h1₅:S1 (k1+1) h₅:=D1.frame _ _ _ h1₂ λ c hc o e=>hs₅.extBut _ _ (D.z1 c hc).2.1 (hs₄.extBut _ _ (D.z1 c hc).2.2 (hs₃.extBut _ _ (D.z1 c hc).2.1 e))
 have h2₅:S2 (k2+1) h₅:=D2.frame _ _ _ h2₄ λ c hc o e=>hs₅.extBut _ _ (D.z2 c hc).2.1 e
 have hzlt:z<h₅.objs.size:=Heap.lt_size hz₅
 show wpAny _ _ (Builtin.SmallTypes.ownedTupleHandOut (.ref z) (.ref h₅.objs.size) >>= _) _ _ _
 refine wpAny_bind ?_
 unfold Builtin.SmallTypes.ownedTupleHandOut
 have hz₆:IsZip (h₅.push { cls:=.type "tuple",data:=.seq #[x,y] }) z TI TO .ellipsis:=Heap.get?_push_of_some _ hz₅
 refine wpAny_bind (wpAny_setField_rec hz₆ (by simp) λ h₇ hz₇ hs₇=>?_)
 replace hz₇:IsZip h₇ z TI TO (rawInt h₅.objs.size):=hz₇
 refine wpAny_setField_rec hz₇ (by simp) λ h₈ hz₈ hs₈=>?_
 replace hz₈:IsZip h₈ z TI TO (rawInt h₅.objs.size):=hz₈
 have up:∀ c o,c≠z->h₅.get? c=some o->h₈.get? c=some o:=λ c o c1 e=>hs₈.extBut _ _ c1 (hs₇.extBut _ _ c1 (Heap.get?_push_of_some _ e))
 have hT₈:IsPair h₈ h₅.objs.size x y:=hs₈.extBut _ _ (Nat.ne_of_gt hzlt) (hs₇.extBut _ _ (Nat.ne_of_gt hzlt) (Heap.get?_push_size _ rfl))
 have hz8:h₈.objs.size=h₅.objs.size+1:=by rw [hs₈.1,hs₇.1,Heap.size_push]
 rw [hsz] at hz₈ hT₈ hz8
 refine wpAny_pure ⟨_,rfl,?_⟩
 show Q (.ref h₅.objs.size) _
 rw [hsz]
 exact hQ x y h₈ _ hx hy hz₈ (up _ _ D.TOz hTO₅) (D1.frame _ _ _ h1₅ λ c hc o e=>up c o (D.z1 c hc).1 e) (D2.frame _ _ _ h2₅ λ c hc o e=>up c o (D.z2 c hc).1 e) hT₈ hz8 λ c o c1 c2 c3 c4 e=>up c o c1 (hk₅ c o c1 c2 c3 c4 e)
theorem Afb {Q:PySem.Fin->Shared->Prop}(D:ZApart z TI TO i1 i2 f1 f2) (D1:Draws prog w A i1 f1 n1 P1 S1) (D2:Draws prog w A i2 f2 n2 P2 S2) (hz:IsZip s.heap z TI TO .none) (hTI:IsPair s.heap TI (.ref i1) (.ref i2)) (hTO:IsPair s.heap TO a b)
  (h1:S1 k1 s.heap) (h2:S2 k2 s.heap) (hend:k1=n1\/(k1<n1/\k2=n2))
  (hE:∀ h' tk e,(∀ c o,c≠z->c≠TO->c≠i1->c≠i2->s.heap.get? c=some o->h'.get? c=some o)->(∃ o,h'.get? e=some o/\o.cls=.type "StopIteration")->E (.ref e) { s with heap:=h',toks:=tk }) :
  wpAny (model prog w) A (Builtin.«zip.__next__» ⟨[.ref z],[]⟩) Q E s:=by
 show wpAny _ _ (field (.ref z) 2 >>= _) _ _ _
 refine wpAny_bind (wpAny_field hz rfl (x:=.bool false) rfl ?_)
 show wpAny _ _ (field (.ref z) 3 >>= _) _ _ _
 refine wpAny_bind (wpAny_field hz rfl (x:=.ref TI) rfl ?_)
 refine wpAny_bind (wpAny_seqItems hTI rfl ?_)
 show wpAny _ _ (Builtin.SmallTypes.ownedTupleIsFree (.ref z) >>= _) _ _ _
 refine wpAny_bind ?_
 unfold Builtin.SmallTypes.ownedTupleIsFree
 refine wpAny_bind (wpAny_field hz rfl (x:=.none) rfl (wpAny_pure ?_))
 simp only [if_true]
 refine wpAny_bind (wpAny_rule ?_)
 refine wpAny_bind (wpAny_field hz rfl (x:=.ref TO) rfl ?_)
 refine wpAny_bind (wpAny_setField_rec hz (by simp) λ h₁ hz₁ hs₁=>?_)
 replace hz₁:IsZip h₁ z TI TO .ellipsis:=hz₁
 refine wpAny_bind ?_
 simp only [List.zipIdx_cons,List.zipIdx_nil,List.forIn_cons,List.forIn_nil]
 refine wpAny_bind (wpAny_bind (wpAny_onRaise ?_))
 show wpAny _ _ (Builtin.SmallTypes.nextOf (.ref i1) >>= _) _ _ _
 have h1₁:S1 k1 h₁:=D1.frame _ _ _ h1 λ c hc o e=>hs₁.extBut _ _ (D.z1 c hc).1 e
 rcases hend with rfl|⟨l1,rfl⟩
 ·refine wpAny_bind (D1.done _ _ _ h1₁ λ h₂ e hs₂ he=>?_)
  obtain⟨oe,hoe,hce⟩:=he
  have hz₂:IsZip h₂ z TI TO .ellipsis:=hs₂ _ _ D.i1z.symm hz₁
  have hez:e≠z:=λ x=>by subst x;rw [hz₂] at hoe;cases hoe;simp at hce
  refine wpAny_setField_rec hz₂ (by simp) λ h₃ _ hs₃=>hE h₃ _ e (λ c o c1 _ c3 _ x=>hs₃.extBut _ _ c1 (hs₂ _ _ c3 (hs₁.extBut _ _ c1 x))) ⟨oe,hs₃.extBut _ _ hez hoe,hce⟩
 ·refine wpAny_bind (D1.item k1 _ _ _ l1 h1₁ λ x h₂ tk₂ hx h1₂ hs₂=>wpAny_pure ?_)
  have hTO₂:IsPair h₂ TO a b:=hs₂.extBut _ _ D.TOi1 (hs₁.extBut _ _ D.TOz hTO)
  refine wpAny_bind (wpAny_seqItems hTO₂ rfl ?_)
  refine wpAny_bind (wpAny_updateSeq_pair hTO₂ λ h₃ hTO₃ hs₃=>?_)
  refine wpAny_bind (wpAny_letGo (wpAny_pure ?_))
  refine wpAny_bind (wpAny_bind (wpAny_onRaise ?_))
  show wpAny _ _ (Builtin.SmallTypes.nextOf (.ref i2) >>= _) _ _ _
  refine wpAny_bind (D2.done _ _ _ (D2.frame _ _ _ h2 λ c hc o e=>hs₃.extBut _ _ (D.z2 c hc).2.1 (hs₂.extBut _ _ (D.z2 c hc).2.2 (hs₁.extBut _ _ (D.z2 c hc).1 e))) λ h₄ e hs₄ he=>?_)
  obtain⟨oe,hoe,hce⟩:=he
  have hz₄:IsZip h₄ z TI TO .ellipsis:=hs₄ _ _ D.i2z.symm (hs₃.extBut _ _ D.TOz.symm (hs₂.extBut _ _ D.i1z.symm hz₁))
  have hez:e≠z:=λ x=>by subst x;rw [hz₄] at hoe;cases hoe;simp at hce
  refine wpAny_setField_rec hz₄ (by simp) λ h₅ _ hs₅=>hE h₅ _ e (λ c o c1 c2 c3 c4 x=>hs₅.extBut _ _ c1 (hs₄ _ _ c4 (hs₃.extBut _ _ c2 (hs₂.extBut _ _ c3 (hs₁.extBut _ _ c1 x))))) ⟨oe,hs₅.extBut _ _ hez hoe,hce⟩
end
end M

set_option Elab.async false
set_option linter.all false
set_option maxRecDepth 100000
namespace M
open PySem PySem.Spec PyProof.Rows L2
section
variable {prog:Program}{w:World}{A:Around}{E:Value->Shared->Prop}{s:Shared}{z TI TO i1 i2:Addr}{f1 f2:List Addr}{n1 n2 k1 k2:Nat}{P1 P2:Nat->Value->Prop}{S1 S2:Nat->Heap->Prop}{a b:Value}
theorem Aji {Q:Option Value->Shared->Prop}(D:ZApart z TI TO i1 i2 f1 f2) (D1:Draws prog w A.in1 i1 f1 n1 P1 S1) (D2:Draws prog w A.in1 i2 f2 n2 P2 S2) (hz:IsZip s.heap z TI TO .none) (hTI:IsPair s.heap TI (.ref i1) (.ref i2)) (hTO:IsPair s.heap TO a b)
  (h1:S1 k1 s.heap) (h2:S2 k2 s.heap) (l1:k1<n1) (l2:k2<n2)
  (hQ:∀ x y h' tk,P1 k1 x->P2 k2 y->IsZip h' z TI TO (rawInt s.heap.objs.size)->IsPair h' TO x y->S1 (k1+1) h'->S2 (k2+1) h'->IsPair h' s.heap.objs.size x y->h'.objs.size=s.heap.objs.size+1 →
   (∀ c o,c≠z->c≠TO->c≠i1->c≠i2->s.heap.get? c=some o->h'.get? c=some o)->Q (some (.ref s.heap.objs.size)) { s with heap:=h',toks:=tk }):wpAny (model prog w) A (pyNext (.ref z)) Q E s:=by
 have hT:s.TypeIs (.ref z) "zip":=⟨_,hz,rfl⟩
 unfold pyNext
 exact wpAny_bind (wpAny_attempt (wpAny_callSpecial?_slot (name:=Str.ofString "__next__") hT F.slot_zip_next (wpAny_call_entry F.slot_zip_next hT F.entry_zip_next
  (Ach D D1 D2 hz hTI hTO h1 h2 l1 l2 λ x y h' tk a0 b0 a1 a2 a3 a4 a5 a6 a7=>wpAny_pure (hQ x y h' tk a0 b0 a1 a2 a3 a4 a5 a6 a7)) (F.args_zip_next_1 _))))
theorem Vy {Q:Option Value->Shared->Prop}(D:ZApart z TI TO i1 i2 f1 f2) (D1:Draws prog w A.in1 i1 f1 n1 P1 S1) (D2:Draws prog w A.in1 i2 f2 n2 P2 S2) (hz:IsZip s.heap z TI TO .none) (hTI:IsPair s.heap TI (.ref i1) (.ref i2)) (hTO:IsPair s.heap TO a b)
  (h1:S1 k1 s.heap) (h2:S2 k2 s.heap) (hend:k1=n1\/(k1<n1/\k2=n2))
  (hQ:∀ h' tk,(∀ c o,c≠z->c≠TO->c≠i1->c≠i2->s.heap.get? c=some o->h'.get? c=some o)->Q none { s with heap:=h',toks:=tk }):wpAny (model prog w) A (pyNext (.ref z)) Q E s:=by
 have hT:s.TypeIs (.ref z) "zip":=⟨_,hz,rfl⟩
 unfold pyNext
 refine wpAny_bind (wpAny_attempt (wpAny_callSpecial?_slot (name:=Str.ofString "__next__") hT F.slot_zip_next (wpAny_call_entry F.slot_zip_next hT F.entry_zip_next
  (Afb D D1 D2 hz hTI hTO h1 h2 hend λ h' tk e hk he=>?_) (F.args_zip_next_1 _))))
 obtain⟨o,ho,hc⟩:=he
 refine wpAny_bind (wpAny_isInstance (T:="StopIteration") (b:=true) ⟨o,ho,hc⟩ isSubtype_stop ?_)
 exact wpAny_pure (hQ _ _ hk)
end
noncomputable abbrev Akd (h:Heap) (l1:Addr):Heap:=h.push { cls:=.type "list_iterator",data:=.fields #[.ref l1,.int 0 0] }
noncomputable abbrev Aka (h:Heap) (l1 l2:Addr):Heap:=(Akd h l1).push { cls:=.type "tuple_iterator",data:=.fields #[.ref l2,.int 0 0] }
noncomputable abbrev Akl (h:Heap) (l1 l2:Addr):Heap:=(Aka h l1 l2).push { cls:=.type "tuple",data:=.seq #[.ref h.objs.size,.ref (Akd h l1).objs.size] }
noncomputable abbrev Akg (h:Heap) (l1 l2:Addr):Heap:=(Akl h l1 l2).push { cls:=.type "tuple",data:=.seq #[.none,.none] }
noncomputable abbrev Agv (h:Heap) (l1 l2:Addr):Heap:=(Akg h l1 l2).push { cls:=.type "zip",data:=.fields #[.none,.bool false,.bool false,.ref (Aka h l1 l2).objs.size,.ref (Akl h l1 l2).objs.size] }
theorem Vx (l1 l2:Addr) (xs ys:Array Value) :
  Meets (Builtin.«zip.__new__» ⟨[.type "zip",.ref l1,.ref l2],[]⟩) (λ _ R s=>s.heap.IsList l1 xs/\s.heap.IsTuple l2 ys ∧
   R (.ok (.ret (.ref (Akg s.heap l1 l2).objs.size))) { s with heap:=Agv s.heap l1 l2 }) :=
 .of_wp λ prog w A R s h=>by
  obtain⟨hp,g,d,tk,os⟩:=s;obtain⟨hl1,hl2,h⟩:=h
  have hsub:=sub_zip
  have hL1:Heap.IsList (Shared.heap ⟨hp,g,d,tk,os⟩) l1 xs:=hl1
  have hL2:Heap.IsTuple (Shared.heap ⟨hp.push { cls:=.type "list_iterator",data:=.fields #[.ref l1,.int 0 0] },g,d,tk,os⟩) l2 ys:=Heap.IsTuple.push hl2 _
  wp_walk using wpAny_pyIter_list hL1,wpAny_pyIter_tuple hL2
  exact⟨_,rfl,h⟩
section
variable {prog:Program}{w:World}{A:Around}{E:Value->Shared->Prop}{s:Shared}
theorem Ym {l1 l2:Addr}{xs ys:Array Value}{Q:Value->Shared->Prop}(hl1:s.heap.IsList l1 xs) (hl2:s.heap.IsTuple l2 ys)
  (h:∀ h',IsZip h' (s.heap.objs.size+4) (s.heap.objs.size+2) (s.heap.objs.size+3) .none->IsPair h' (s.heap.objs.size+2) (.ref s.heap.objs.size) (.ref (s.heap.objs.size+1)) →
   IsPair h' (s.heap.objs.size+3) .none .none->h'.IsListIter s.heap.objs.size l1 0->h'.IsTupleIter (s.heap.objs.size+1) l2 0 →
   (∀ c o,s.heap.get? c=some o->h'.get? c=some o)->Q (.ref (s.heap.objs.size+4)) { s with heap:=h' }):wpAny (model prog w) A (call (.type "zip") [.ref l1,.ref l2]) Q E s:=by
 refine callType_new F.called_zip (by decide) (F.typeCall_zip_2 _ _) (F.newCall_zip_2 _ _) (λ obj=>F.args_object_init_3 obj _ _) F.entry_zip_new (Vx l1 l2 xs ys) ⟨hl1,hl2,?_⟩
 have z1:(Akd s.heap l1).objs.size=s.heap.objs.size+1:=Heap.size_push ..
 have z2:(Aka s.heap l1 l2).objs.size=s.heap.objs.size+2:=by rw [Heap.size_push,z1]
 have z3:(Akl s.heap l1 l2).objs.size=s.heap.objs.size+3:=by rw [Heap.size_push,z2]
 have z4:(Akg s.heap l1 l2).objs.size=s.heap.objs.size+4:=by rw [Heap.size_push,z3]
 have g5:(Agv s.heap l1 l2).get? (Akg s.heap l1 l2).objs.size=some _:=Heap.get?_push_size _ rfl
 have g4:(Agv s.heap l1 l2).get? (Akl s.heap l1 l2).objs.size=some _:=Heap.get?_push_of_some _ (Heap.get?_push_size _ rfl)
 have g3:(Agv s.heap l1 l2).get? (Aka s.heap l1 l2).objs.size=some _:=Heap.get?_push_of_some _ (Heap.get?_push_of_some _ (Heap.get?_push_size _ rfl))
 have g2:(Agv s.heap l1 l2).get? (Akd s.heap l1).objs.size=some _:=Heap.get?_push_of_some _ (Heap.get?_push_of_some _ (Heap.get?_push_of_some _ (Heap.get?_push_size _ rfl)))
 have g1:(Agv s.heap l1 l2).get? s.heap.objs.size=some _:=Heap.get?_push_of_some _ (Heap.get?_push_of_some _ (Heap.get?_push_of_some _ (Heap.get?_push_of_some _ (Heap.get?_push_size _ rfl))))
 show _/\_
 rw [z2,z3,z4] at g5
 rw [z1,z2] at g3
 rw [z3] at g4
 rw [z1] at g2
 rw [z4]
 exact⟨⟨_,g5,rfl⟩,h _ g5 g3 g4 ⟨_,g1,rfl,rfl⟩ ⟨_,g2,rfl,rfl⟩ λ c o x =>
  Heap.get?_push_of_some _ (Heap.get?_push_of_some _ (Heap.get?_push_of_some _ (Heap.get?_push_of_some _ (Heap.get?_push_of_some _ x))))⟩
end
noncomputable def Aoe (K:PySem.W.Frag) (a b:Addr):It :=
 ⟨λ i H=>∃ xs ys x y,SqL K H a xs/\SqT K H b ys/\xs[i]?=some x/\ys[i]?=some y,
  λ i H v H'=>∃ T x y,v=.ref T/\H T=none/\H'=upd H T (.tup [x,y])/\(∀ xs,SqL K H a xs->xs[i]?=some x)/\∀ ys,SqT K H b ys->ys[i]?=some y,
  λ i H=>∃ xs ys,SqL K H a xs/\SqT K H b ys/\i=min xs.length ys.length⟩
theorem Zh {P:Program}{w:World}{K:PySem.W.Frag}{elts:List Expr}{k:Nat}{pos:Pos}(a b z TI TO i1 i2:Addr) (D:ZApart z TI TO i1 i2 [i1,a] [i2,b]) (hai:a≠i1) (hbi:b≠i2) :
  Turn P w K (.Tuple elts k pos) (Aoe K a b) [z,TI,TO,i1,i2] z (λ i h=>IsZip h z TI TO .none/\IsPair h TI (.ref i1) (.ref i2)/\(∃ u v,IsPair h TO u v)/\h.IsListIter i1 a i/\h.IsTupleIter i2 b i) where
 mem:=by simp
 obj:=λ i h st c hc=>by
  obtain⟨h1,h2,⟨u,v,h3⟩,⟨o4,e4,c4,d4⟩,⟨o5,e5,c5,d5⟩⟩:=st
  simp only [List.mem_cons,List.not_mem_nil,or_false] at hc
  rcases hc with rfl|rfl|rfl|rfl|rfl
  ·exact⟨_,h1,λ v z=>nomatch z⟩
  ·exact⟨_,h2,λ v z=>nomatch z⟩
  ·exact⟨_,h3,λ v z=>nomatch z⟩
  ·exact⟨_,e4,λ v z=>by rw [d4] at z;cases z⟩
  ·exact⟨_,e5,λ v z=>by rw [d5] at z;cases z⟩
 keep:=λ i h h' st k=>by
  obtain⟨h1,h2,⟨u,v,h3⟩,h4,⟨o5,e5,r5⟩⟩:=st
  exact⟨k z (by simp) _ h1,k TI (by simp) _ h2,⟨u,v,k TO (by simp) _ h3⟩,h4.at λ o e=>k i1 (by simp) o e,⟨o5,k i2 (by simp) _ e5,r5⟩⟩
 item:=by
  intro X hP hw hK hc i pins s σ H E I hf st hg
  subst hP hw hK
  obtain⟨xs,ys,x,y,hq1,hq2,hx,hy⟩:=hg
  obtain⟨its1,rv1,p1,hz1⟩:=I.list hq1
  obtain⟨its2,rv2,p2,hz2⟩:=I.tuple hq2
  obtain⟨u1,hu1,ru1⟩:=rv1.get hx
  obtain⟨u2,hu2,ru2⟩:=rv2.get hy
  obtain⟨h1,h2,⟨ua,va,h3⟩,h4,h5⟩:=st
  have l1:i<its1.length:=(List.getElem?_eq_some_iff.mp hu1).1
  have l2:i<its2.length:=(List.getElem?_eq_some_iff.mp hu2).1
  have D1:=Draws.list (prog:=X.prog) (w:=X.w) (A:=X.A.in1) (I.ok.hd hc) i1 a hai its1.toArray
  have D2:=Rf (prog:=X.prog) (w:=X.w) (A:=X.A.in1) (I.ok.hd hc) i2 b hbi its2.toArray
  refine Aji (k1:=i) (k2:=i) D D1 D2 h1 h2 h3 ⟨h4,p1.isList⟩ ⟨h5,p2⟩ (by simpa using l1) (by simpa using l2) λ v1 v2 h' tk e1 e2 g1 g2 g3 g4 g5 g6 hk=>?_
  have e1':v1=u1:=by
   have:its1[i]?=some v1:=by simpa using e1
   rw [hu1] at this;exact (Option.some.inj this).symm
  have e2':v2=u2:=by
   have:its2[i]?=some v2:=by simpa using e2
   rw [hu2] at this;exact (Option.some.inj this).symm
  subst e1' e2'
  refine⟨_,rfl,?_⟩
  refine wpAny_letOwnedTupleGo_zip g1 λ h'' gz hs''=>?_
  have hlt:∀ c∈[z,TI,TO,i1,i2],c<s.heap.objs.size:=λ c hc=>by
   obtain⟨o4,e4,_⟩:=h4
   obtain⟨o5,e5,_⟩:=h5
   simp only [List.mem_cons,List.not_mem_nil,or_false] at hc
   rcases hc with rfl|rfl|rfl|rfl|rfl
   ·exact Heap.lt_size h1
   ·exact Heap.lt_size h2
   ·exact Heap.lt_size h3
   ·exact Heap.lt_size e4
   ·exact Heap.lt_size e5
  have nT:H s.heap.objs.size=none:=I.hok.fresh (Nat.le_refl _)
  have nz:∀ c∈[z,TI,TO,i1,i2],s.heap.objs.size≠c:=λ c hc=>Nat.ne_of_gt (hlt c hc)
  have up:∀ c o,c∉[z,TI,TO,i1,i2]->s.heap.get? c=some o->h''.get? c=some o:=λ c o hc e=>by
   simp only [List.mem_cons,List.not_mem_nil,or_false,not_or] at hc
   exact hs''.extBut _ _ hc.1 (hk c o hc.1 hc.2.2.1 hc.2.2.2.1 hc.2.2.2.2 e)
  have I':Inv X pins σ (upd H s.heap.objs.size (.tup [x,y])) { s with heap:=h'',toks:=tk }:=J4 I hf up (Nat.le_refl _)
   ⟨by rw [sizeLine_eq];simp,[v1,v2],.cons ru1 (.cons ru2 .nil),_,hs''.extBut _ _ (nz z (by simp)) g5,rfl,_,rfl⟩
  refine⟨.ref s.heap.objs.size,_,I',rfl,⟨_,x,y,rfl,nT,rfl,λ zs hz=>by rw [I.list_inj hz hq1];exact hx,λ zs hz=>by rw [I.tuple_inj hz hq2];exact hy⟩,⟨gz,hs''.extBut _ _ D.TIz (hk _ _ D.TIz D.TITO D.TIi1 D.TIi2 h2),⟨_,_,hs''.extBut _ _ D.TOz g2⟩,g3.1.extBut hs''.extBut D.i1z,g4.1.extBut hs''.extBut D.i2z⟩,λ c hc=>?_⟩
  rw [Ah (Ne.symm (nz c hc))]
  exact (hf c hc).1
 done:=by
  intro X hP hw hK hc i pins s σ H E I hf st hg
  subst hP hw hK
  obtain⟨xs,ys,hq1,hq2,hi⟩:=hg
  obtain⟨its1,rv1,p1,hz1⟩:=I.list hq1
  obtain⟨its2,rv2,p2,hz2⟩:=I.tuple hq2
  obtain⟨h1,h2,⟨ua,va,h3⟩,h4,h5⟩:=st
  have D1:=Draws.list (prog:=X.prog) (w:=X.w) (A:=X.A.in1) (I.ok.hd hc) i1 a hai its1.toArray
  have D2:=Rf (prog:=X.prog) (w:=X.w) (A:=X.A.in1) (I.ok.hd hc) i2 b hbi its2.toArray
  have z1:its1.toArray.size=xs.length:=by rw [List.size_toArray,rv1.length]
  have z2:its2.toArray.size=ys.length:=by rw [List.size_toArray,rv2.length]
  refine Vy (k1:=i) (k2:=i) D D1 D2 h1 h2 h3 ⟨h4,p1.isList⟩ ⟨h5,p2⟩ (by rw [z1,z2];omega) λ h' tk hk=>⟨rfl,?_⟩
  have nit:∀ b u,H b=some u->b∉[z,TI,TO,i1,i2]:=λ b u e q=>by rw [(hf b q).1] at e;cases e
  have k:∀ b o,b∉[z,TI,TO,i1,i2]->s.heap.get? b=some o->h'.get? b=some o:=λ c o hc e=>by
   simp only [List.mem_cons,List.not_mem_nil,or_false,not_or] at hc
   exact hk c o hc.1 hc.2.2.1 hc.2.2.2.1 hc.2.2.2.2 e
  refine I.step (g':=s.gens) (d':=s.drawn) (ch:=[z,TI,TO,i1,i2]) (λ b hb=>?_) (λ b o _ _ hc e _=>k b o hc e) (λ b o _ _ hc e _=>⟨o.slots,k b o hc e⟩) (λ b ob _ e n=>n)
   (λ b o hc e=>⟨o,k b o hc e⟩) (λ b xs e=>e) (λ b u xs e=>e) (λ b ps e=>⟨#[],by rw [e];simp⟩) (λ m hm=>?_) (λ b u e=>?_) I.bare
  ·obtain⟨_,q1,q2,q3,q4,q5⟩:=hf b hb
   exact⟨q3,q1,q4,q5⟩
  ·obtain⟨ob,es,ep,ho,r⟩:=hm
   exact⟨ob,es,ep,k _ ob (λ z=>(hf _ z).2.1 rfl) ho,r⟩
  ·refine (I.hok b u e).stay (λ c v hc q=>k c v ?_ q) (λ c q=>q) λ c xs q=>q
   rcases hc with z|z
   ·rw [z];exact nit b u e
   ·exact nit c _ z
 self:=λ _ _ _ _ _ st h=>wpAny_pyIter_zip st.1 h
end M

set_option Elab.async false
set_option linter.all false
set_option maxRecDepth 100000
namespace M
open PySem PySem.Spec PyProof.Rows L2
noncomputable def signs (w:Int):Option (List Str):=if w=0 then some ["<",">"] else if w=1 then some ["^","v"] else none
structure Sgn (K:PySem.W.Frag) (mg:Str->Option Value):Prop where
 ex:∃ a a0 a1,mg "SIGNS"=some (.ref a)/\(∀ H,SqT K H a [.ref a0,.ref a1])/\(∀ H,SqT K H a0 [.str "<",.str ">"])/\∀ H,SqT K H a1 [.str "^",.str "v"]
theorem Acw {K:PySem.W.Frag}{h:Heap}{mg:Str->Option Value}(KX:K.In h) (GX:h.Ns mainGlobals mg) {a a0 a1:Addr}{d d0 d1:Option Addr}{n m0 m1:Nat}{sl sl0 sl1:Array (Option Value)}{t0 t1 t2 t3:Tok}(h1:PySem.W.nsIn K mainGlobals "SIGNS"=some (some (.ref a)))
  (h2:K.lookup a=some ⟨.type "tuple",d,.seq #[.ref a0,.ref a1] n,sl⟩) (h3:K.lookup a0=some ⟨.type "tuple",d0,.seq #[.str "<" t0,.str ">" t1] m0,sl0⟩) (h4:K.lookup a1=some ⟨.type "tuple",d1,.seq #[.str "^" t2,.str "v" t3] m1,sl1⟩):Sgn K mg :=
 ⟨a,a0,a1,PySem.W.mg_of KX GX h1,λ H=>.inr ⟨_,_,_,h2,rfl,rfl,by show 2<=2 ^ 24;decide,.cons rfl (.cons rfl .nil)⟩,λ H=>.inr ⟨_,_,_,h3,rfl,rfl,by show 2<=2 ^ 24;decide,.cons ⟨t0,rfl⟩ (.cons ⟨t1,rfl⟩ .nil)⟩,λ H=>.inr ⟨_,_,_,h4,rfl,rfl,by show 2<=2 ^ 24;decide,.cons ⟨t2,rfl⟩ (.cons ⟨t3,rfl⟩ .nil)⟩⟩
theorem Acy {α:Type}{xs:List α}{i:Nat}{x:α}(h:xs[i]?=some x):atI xs (i:Int)=some x:=by
 have h1:i<xs.length:=(List.getElem?_eq_some_iff.mp h).1
 unfold atI ixN
 rw [if_pos (by omega),if_pos (by omega)]
 simpa using h
section
variable {X:Cx}{G:Fc}{a e:Expr}{ma m:EV}{p p1 p2 pos tpos:Pos}{elts:List Expr}{tk:Nat}
noncomputable def Amw (K:PySem.W.Frag) (ta:TA):TI:=λ σ H Rr=>ta σ H λ vs H1=>∃ a b,vs=[.ref a,.ref b]/\(∃ xs,SqL K H1 a xs)/\(∃ ys,SqT K H1 b ys)/\Rr (Aoe K a b) H1
theorem Agk {b:Expr}{ta:TA}(hg:Gl X "zip") (hm:X.mg "zip"=none) (ha:PA X [a,b] ta) (hs:starEach [a,b] X.env=[(false,eval a X.env),(false,eval b X.env)]:=by rfl) (hs2:starEach [b] X.env=[(false,eval b X.env)]:=by rfl) :
  PI X (.Tuple elts tk tpos) (.Call (.Name "zip" p) [a,b] [] pos) (Amw X.K ta):=by
 intro pins s σ H Rr I h
 refine Call_ (Ls I hg hm boot_zip (PyProof.Rows.callWith_type1 (thn (ha pos pins s σ H _ I h) λ us s1 ⟨vs,H1,I1,r1,q1⟩=>?_) (by rw [hs,hs2]) (by rw [hs2];rfl)))
 obtain⟨l1,l2,e,⟨xs,hx⟩,⟨ys,hy⟩,q⟩:=q1
 subst e
 obtain⟨u1,u2,rfl,ru1,ru2⟩:=vals2 r1
 cases ru1
 cases ru2
 obtain⟨its1,rv1,p1,hz1⟩:=I1.list hx
 obtain⟨its2,rv2,p2,hz2⟩:=I1.tuple hy
 have hlt1:l1<s1.heap.objs.size:=by obtain⟨o,e,_⟩:=p1.isList;exact Heap.lt_size e
 have hlt2:l2<s1.heap.objs.size:=by obtain⟨o,e,_⟩:=p2;exact Heap.lt_size e
 refine Ym p1.isList p2 λ h' hz hTI hTO hi1 hi2 hk=>?_
 refine wpAny_pyIter_zip hz ?_
 have n1:∀ k,l1≠s1.heap.objs.size+k:=λ k=>Nat.ne_of_lt (Nat.lt_of_lt_of_le hlt1 (Nat.le_add_right _ _))
 have n2:∀ k,l2≠s1.heap.objs.size+k:=λ k=>Nat.ne_of_lt (Nat.lt_of_lt_of_le hlt2 (Nat.le_add_right _ _))
 have nn:∀ {j k:Nat},j≠k->s1.heap.objs.size+j≠s1.heap.objs.size+k:=λ h z=>h (Nat.add_left_cancel z)
 have D:ZApart (s1.heap.objs.size+4) (s1.heap.objs.size+2) (s1.heap.objs.size+3) (s1.heap.objs.size+0) (s1.heap.objs.size+1) [s1.heap.objs.size+0,l1] [s1.heap.objs.size+1,l2] :=
  ⟨nn (by decide),nn (by decide),nn (by decide),nn (by decide),nn (by decide),nn (by decide),nn (by decide),nn (by decide),nn (by decide),nn (by decide),λ b hb=>by
   rcases List.mem_cons.mp hb with rfl|hb
   ·exact⟨nn (by decide),nn (by decide),nn (by decide)⟩
   ·rw [List.mem_singleton.mp hb];exact⟨n1 _,n1 _,n1 _⟩,λ b hb=>by
   rcases List.mem_cons.mp hb with rfl|hb
   ·exact⟨nn (by decide),nn (by decide),nn (by decide)⟩
   ·rw [List.mem_singleton.mp hb];exact⟨n2 _,n2 _,n2 _⟩⟩
 refine⟨_,[s1.heap.objs.size+4,s1.heap.objs.size+2,s1.heap.objs.size+3,s1.heap.objs.size+0,s1.heap.objs.size+1],_,_,H1,rfl,I1.kept (t':=s1.toks) hk,Zh l1 l2 _ _ _ _ _ D (n1 0) (n2 1),⟨hz,hTI,⟨_,_,hTO⟩,hi1,hi2⟩,λ c hc=>?_,q⟩
 have hge:s1.heap.objs.size<=c:=by
  simp only [List.mem_cons,List.not_mem_nil,or_false] at hc
  rcases hc with rfl|rfl|rfl|rfl|rfl<;>exact Nat.le_add_right _ _
 exact I1.fpOk hge (I1.hok.fresh hge)
theorem Adb {K:PySem.W.Frag}{w:Int}{zs:List Str}{a0 a1:Addr}(h:signs w=some zs) (h0:∀ H,SqT K H a0 [.str "<",.str ">"]) (h1:∀ H,SqT K H a1 [.str "^",.str "v"]):∃ b,atI [V.ref a0,V.ref a1] w=some (.ref b)/\∀ H,SqT K H b (zs.map V.str):=by
 unfold signs at h
 split at h
 ·rename_i e;subst e;cases h;exact⟨a0,rfl,h0⟩
 ·split at h
  ·rename_i e;subst e;cases h;exact⟨a1,rfl,h1⟩
  ·cases h
noncomputable def iZs (ma m:EV):Ev->R (List D):=λ E=>ma E >>= λ x=>m E >>= λ y=>match x,y with
 | .lst xs,.int w=>match signs w with
  | some zs=>.ok (List.zipWith (λ a b=>D.tup [a,.str b]) xs zs)
  | none=>.no
 | _,_=>.no
theorem Agg (SA:Sgn X.K X.mg) (hg:Gl X "zip") (hm:X.mg "zip"=none) (hgs:Gl X "SIGNS") (ha:SF X G a ma) (he:SE X G e m) (hp:Lj e:=by exact λ _ _=>rfl) (hs:starEach [a,.Subscript (.Name "SIGNS" p1) e p2] X.env=[(false,eval a X.env),(false,eval (.Subscript (.Name "SIGNS" p1) e p2) X.env)]:=by rfl) (hs2:starEach [.Subscript (.Name "SIGNS" p1) e p2] X.env=[(false,eval (.Subscript (.Name "SIGNS" p1) e p2) X.env)]:=by rfl) :
  SI X G (.Tuple elts tk tpos) (.Call (.Name "zip" p) [a,.Subscript (.Name "SIGNS" p1) e p2] [] pos) (iZs ma m):=by
 obtain⟨aS,a0,a1,h1,h2,h3,h4⟩:=SA.ex
 refine (Agk hg hm (Br ha (Br (Aas Ud (Kq (v:=V.ref aS) hgs h1 rfl) he hp) Ea hs2) (by rw [hs,hs2])) hs hs2).imp ?_
 rintro σ H Q ⟨E,hr,f⟩
 refine⟨E,hr,(Fin.bind f).mono λ d p v H1 s1 z=>⟨E,hr.same s1,(Fin.bind p).mono λ dw p w H2 s2 y=>?_⟩⟩
 cases d with
 | lst xs =>
  cases dw with
  | int wv =>
   dsimp only at p
   cases hz:signs wv with
   | none=>rw [hz] at p;exact p.elim
   | some zs =>
    rw [hz] at p
    obtain⟨b,e1,e2⟩:=Adb hz h3 h4
    have z:=z.mono s2 λ _ q=>q
    unfold Rp at z
    obtain⟨l1,vs,rfl,no1,hl1,r1⟩:=z
    refine⟨aS,[.ref a0,.ref a1],wv,.ref b,rfl,y.int,h2 H2,e1,l1,b,rfl,⟨vs,SqL.of hl1⟩,⟨_,e2 H2⟩,p _ H2 (s1.trans s2) λ G' E' σ' H' le r'=>?_⟩
    have h1':=(locked le r' _ _ no1 hl1).1
    refine⟨⟨vs,zs.map V.str,SqL.of h1',e2 _,by rw [List.length_zipWith,r1.length,List.length_map]⟩,λ i d hd=>?_⟩
    have hd':∃ dx c,xs[i]?=some dx/\zs[i]?=some c/\d=.tup [dx,.str c]:=by
     rw [List.getElem?_zipWith] at hd
     cases e3:xs[i]? with
     | none=>rw [e3] at hd;simp at hd
     | some dx =>
      cases e4:zs[i]? with
      | none=>rw [e3,e4] at hd;simp at hd
      | some dy=>rw [e3,e4] at hd;simp at hd;exact⟨dx,dy,rfl,rfl,hd.symm⟩
    obtain⟨dx,c,e3,e4,rfl⟩:=hd'
    obtain⟨vx,hvx,px⟩:=r1.get e3
    have hvy:(zs.map V.str)[i]?=some (.str c):=by rw [List.getElem?_map,e4];rfl
    refine⟨⟨vs,_,vx,.str c,SqL.of h1',e2 _,hvx,hvy⟩,?_⟩
    rintro x H'' ⟨T,ux,uy,ex,nT,eH,q1,q2⟩
    subst ex eH
    have b1:=q1 vs (SqL.of h1')
    have b2:=q2 _ (e2 _)
    rw [hvx] at b1;cases b1
    rw [hvy] at b2;cases b2
    refine⟨Ar nT,?_⟩
    unfold Rp
    refine⟨T,[vx,.str c],rfl,r'.fresh nT,Aq,Rps.cons ?_ (Rps.cons (by unfold Rp;rfl) Rps.nil)⟩
    exact (px.move (locked le r')).mono (Ar nT) λ _ q=>q
  | _=>exact p.elim
 | _=>exact p.elim
noncomputable def Abs (j:Nat) (m:EV):EV:=λ E=>m E >>= λ d=>match d with
 | .int w=>match (signs w).bind λ zs=>zs[j]? with
  | some z=>.ok (.str z)
  | none=>.no
 | _=>.no
theorem Afm (j:Nat) {k:Nat}{p3 kpos:Pos}(SA:Sgn X.K X.mg) (hgs:Gl X "SIGNS") (he:SE X G e m) (hp:Lj e:=by exact λ _ _=>rfl):SF X G (.Subscript (.Subscript (.Name "SIGNS" p1) e p2) (.Constant (.int (j:Nat)) k kpos) p3) (Abs j m):=by
 obtain⟨aS,a0,a1,h1,h2,h3,h4⟩:=SA.ex
 refine (Aas Ud (Aas Ud (Kq (v:=V.ref aS) hgs h1 rfl) he hp) Ady (λ _ _=>rfl)).imp ?_
 rintro σ H Q ⟨E,hr,f⟩
 refine⟨E,hr,(Fin.bind f).mono λ d p v H1 s1 z=>?_⟩
 cases d with
 | int wv =>
  dsimp only at p
  cases hz:signs wv with
  | none=>rw [hz] at p;exact p.elim
  | some zs =>
   rw [hz] at p
   cases hj:zs[j]? with
   | none=>rw [Option.bind_some,hj] at p;exact p.elim
   | some c =>
    rw [Option.bind_some,hj] at p
    obtain⟨b,e1,e2⟩:=Adb hz h3 h4
    refine⟨aS,[.ref a0,.ref a1],wv,.ref b,rfl,z.int,h2 H1,e1,b,_,j,.str c,rfl,rfl,e2 H1,?_,p _ H1 s1 (by unfold Rp;rfl)⟩
    exact Acy (by rw [List.getElem?_map,hj];rfl)
 | _=>exact p.elim
theorem Aae {x:Str}{z:Str}(h:∃ t,X.mg x=some (.str z t)) (hg:Gl X x) (hd:(x == ("__debug__":Str))=false:=by decide):SF X G (.Name x pos) (kE (.str z)):=by
 obtain⟨t,h⟩:=h
 exact (Kq (v:=V.str z) hg h ⟨t,rfl⟩ hd).imp λ σ H Q z0=>z0.elim λ E z0=>z0.elim λ r f=>f _ H (Same.refl _) rfl
end
end M

set_option Elab.async false
set_option linter.all false
set_option maxRecDepth 100000
namespace M
open PySem PySem.Spec PyProof.Rows L2
noncomputable def Ar5 (i j:Nat):EX:=λ E=>match E[i]?,E[j]? with
 | some (.ow (.lst xs)),some (.ow (.lst ys))=>.ok (.rt (.tup [.lst xs,.lst ys]))
 | _,_=>.no
section
variable {X:Cx}{G:Fc}{st:Stmt}{rest:List Stmt}{m n:EX}{pos tpos:Pos}
end
noncomputable def spU (K:PySem.W.Frag) (n:Nat) (den:List D->R D):Sp:=λ vs H Q _=>vs.length=n/\∃ (pr:Addr->Prop) (ds:List D),(∀ a,pr a->∃ o,H a=some o/\Ji o)/\Rps K H pr ds vs/\Fin (den ds) (λ d=>∀ t a b H' xs ys,d=.tup [.lst xs,.lst ys]->Same H H'->H a=none->H b=none->a≠b->H' t=some (.tup [.ref a,.ref b])->Own K H' (or2 pr a b) (.lst xs) a->Own K H' (or2 pr a b) (.lst ys) b->Q (.ref t) H') λ _=>False
structure CalU (P:Program) (w:World) (K:PySem.W.Frag) (mg:Str->Option Value) (base:Heap) (x:Str) (ps:List Str) (k:Nat) (dn:List D->R D):Prop where
 ex:∃ (f:Addr) (fd:FuncData),mg x=some (.ref f)/\PySem.W.keepIn K (.ref f)=true/\Binds K fd ps []/\FnOk P w K mg base CX0 k f fd ps (spU K ps.length dn)
section
variable {P:Program}{w:World}{K:PySem.W.Frag}{mg:Str->Option Value}{base:Heap}{x qual:Str}{st:Stmt}{f:Addr}{fd:FuncData}{N ps:List Str}{k:Nat}{m:EX}
end
end M

set_option Elab.async false
set_option linter.all false
set_option maxRecDepth 100000
namespace M
open PySem PySem.Spec PyProof.Rows L2
noncomputable def Ath (i:Nat) (mt:EV) (dnR:List D->R D) (m1 m2:EV) (dnG:List D->R D) (m3 m4:EV):EX:=λ E=>mt E >>= λ t=>dnR [t] >>= λ d=>match d with
 | .tup [.lst xs,.lst ys]=>if xs.length<=1000/\ys.length<=1000/\i<E.length then (m1 (E.set i .un) >>= λ d1=>m2 (E.set i .un) >>= λ d2=>dnG [.tup [.lst xs,.lst ys],d1,d2] >>= λ g=>match g with
  | .bl true=>m3 (E.set i .un) >>= λ _=>m4 (E.set i .un) >>= λ _=>.ok (.nx (E.set i .un))
  | .bl false=>.ok (.rt (.bl false))
  | _=>.no) else .no
 | _=>.no
section
variable {X:Cx}{G:Fc}
end
end M
namespace M
open PySem PySem.Spec PyProof.Rows L2
theorem str_ex {K:PySem.W.Frag}{h:Heap}{x z:Str}{t:Tok}(_:K.In h) (a:PySem.W.nsIn K mainGlobals x=some (some (.str z t))):∃ t,PySem.W.nsIn K mainGlobals x=some (some (.str z t)):=⟨t,a⟩
end M

set_option Elab.async false
set_option linter.all false
set_option maxRecDepth 100000
namespace M
open PySem PySem.W PySem.Spec PyProof.Rows L2
section
variable {X:Cx}{a:Addr}{i:Nat}{e e' e'':Expr}{b b' b'':Bool}{pos:Pos}
theorem Ahk (h:HE X a i e (.bl b)):HE X a i (.UnaryOp .Not e pos) (.bl (!b)) :=
 (Ais h).imp λ σ H Q ⟨q1,q2⟩=>⟨q1,b,rfl,q2⟩
theorem Ahn (h:HT X a i e b):HT X a i (.UnaryOp .Not e pos) (!b) :=
 (Adu h).imp λ σ H Q ⟨q1,q2⟩=>⟨q1,q2⟩
theorem Ah1 (h1:HT X a i e b) (h2:HT X a i e' b') (h3:HT X a i e'' b''):HT X a i (.BoolOp .Or [e,e',e''] pos) (b || b' || b'') :=
 (PW.pt (Aek h1 (Aek h2 (Adl h3)))).imp λ σ H Q ⟨q1,q2⟩=>⟨q1,by
  cases b with
  | true=>exact q2
  | false =>
   refine⟨q1,?_⟩
   cases b' with
   | true=>exact q2
   | false=>exact⟨q1,q2⟩⟩
end
section
variable {X:Cx}{G:Fc}
noncomputable def Ast:V->Option Int->Option Int->Hp->VK->Prop:=λ x lo hi H Q=>∃ z,x=.str z/\z.length<=sizeLine/\Q (.str (Txt.slice z lo hi)) H
theorem Ai1:SlR X Ast:=by
 intro pins s σ H x v vl vu lo hi sl Q I rx hs pl pu h
 obtain⟨z,rfl,hz,q⟩:=h
 obtain⟨t,rfl⟩:=rx
 obtain⟨o,g1,g2,g3⟩:=hs
 refine⟨"str",_,F.slot_str_getitem.lookup,typeIs_str _ _ _,?_⟩
 have fin:∀ (l u:Option (Int × Tok)),l.map (·.1)=lo->u.map (·.1)=hi->o.data=.fields #[partValue l,partValue u,.none]->wpAny (model X.prog X.w) X.A (getItem (.str z t) (.ref sl)) (EP X pins σ Q) X.xe s:=λ l u e1 e2 e3=>by
  refine wpAny_getItem_str_slice (l:=l) (u:=u) (st:=none) ⟨o,g1,g2,e3⟩ rfl ?_
  unfold sliceMade slicePicked
  rw [e1,e2]
  exact post_val_or_str ⟨Nat.le_trans (Txt.slice_le z lo hi) hz,λ t' k=>⟨.str _,H,I.tok _,⟨_,rfl⟩,q⟩⟩
 cases pl with
 | none=>cases pu with
  | none=>exact fin none none rfl rfl g3
  | int j u=>exact fin none (some (j,u)) rfl rfl g3
 | int i u=>cases pu with
  | none=>exact fin (some (i,u)) none rfl rfl g3
  | int j u'=>exact fin (some (i,u)) (some (j,u')) rfl rfl g3
noncomputable def Vl:D->Option Int->Option Int->Option D
 | .str z,lo,hi=>if z.length<=1000000 then some (.str (Txt.slice z lo hi)) else none
 | _,_,_=>none
noncomputable def Aeo (a:EV) (lo hi:Ev->R (Option Int)):EV:=λ E=>a E >>= λ x=>lo E >>= λ l=>hi E >>= λ h=>ofO (Vl x l h)
theorem M7 {e:Expr}{lo hi:Option Expr}{p2 pos:Pos}{m:EV}{ml mh:Ev->R (Option Int)}(he:SE X G e m) (hl:SO X G lo ml) (hh:SO X G hi mh):SF X G (.Subscript e (.Slice lo hi none p2) pos) (Aeo m ml mh) :=
 (Ul Ai1 he hl hh).imp λ σ H Q z0=>z0.elim λ E z0=>z0.elim λ hr f=>⟨E,hr,(Fin.bind f).mono λ d p v H1 s1 z1=>⟨E,hr.same s1,(Fin.bind p).mono λ l p H2 s2=>⟨E,hr.same (s1.trans s2),(Fin.bind p).mono λ h p H3 s3=>by
  obtain⟨d',e',p⟩:=Fin.of p
  cases d with
  | str z =>
   simp only [Vl] at e'
   split at e'
   ·rename_i hn
    cases e'
    exact⟨z,z1.str,by rw [sizeLine_eq];omega,p _ _ (s1.trans (s2.trans s3)) (by unfold Rp;rfl)⟩
   ·cases e'
  | _=>cases e'⟩⟩⟩
end
end M

set_option Elab.async false
set_option linter.all false
namespace M
theorem Aqb {α:Type}{us:List α}(h:us.length=5):∃ a b c d e,us=[a,b,c,d,e]:=by
 cases us with
 | nil=>cases h
 | cons a us=>obtain⟨b,c,d,e,f⟩:=Ap8 (Nat.succ.inj h);exact⟨a,b,c,d,e,by rw [f]⟩
end M

set_option linter.all false
namespace Ma
noncomputable abbrev Sq:=Int × Int
noncomputable def Slt (a b:Sq):Prop:=a.1<b.1\/(a.1=b.1/\a.2<b.2)
theorem Slt.irr {a:Sq}:¬ Slt a a:=by unfold Slt;omega
theorem Slt.trans {a b c:Sq}:Slt a b->Slt b c->Slt a c:=by unfold Slt;omega
theorem Slt.tri {a b:Sq}:Slt a b\/a=b\/Slt b a:=by
 unfold Slt
 rcases a with ⟨a1,a2⟩;rcases b with ⟨b1,b2⟩
 simp only [Prod.mk.injEq];omega
instance (a b:Sq):Decidable (Slt a b):=by unfold Slt;exact inferInstance
theorem Di {l:List Sq}(h:l.Pairwise Slt):l.Nodup:=h.imp λ {a b} h e=>by subst e;exact Slt.irr h
theorem Qh {α:Type} [DecidableEq α]:∀ {l1 l2:List α},l1.Nodup->(∀ x∈l1,x∈l2)->l1.length<=l2.length
 | [],_,_,_=>by simp
 | a :: l1,l2,h,s=>by
  rw [List.nodup_cons] at h
  have ha:=s a (by simp)
  have:=Qh (l2:=l2.erase a) h.2 λ x hx=>by
   have hne:x≠a:=λ e=>h.1 (by rw [<-e];exact hx)
   exact (List.mem_erase_of_ne hne).2 (s x (List.mem_cons_of_mem _ hx))
  rw [List.length_erase_of_mem ha] at this
  have:=List.length_pos_of_mem ha
  simp;omega
noncomputable def OnB (s:Sq):Prop:=0<=s.1/\s.1<8/\0<=s.2/\s.2<8
instance (s:Sq):Decidable (OnB s):=by unfold OnB;exact inferInstance
structure IsFloor (F:List Sq):Prop where
 ord:F.Pairwise Slt
 on:∀ s∈F,OnB s
noncomputable def InR (q:Sq):Prop:=-1<=q.1/\q.1<=8/\-1<=q.2/\q.2<=8
instance (s:Sq):Decidable (InR s):=by unfold InR;exact inferInstance
noncomputable def Amj (p q:Sq):Prop:=p.1-1<=q.1/\q.1<=p.1+1/\p.2-1<=q.2/\q.2<=p.2+1/\InR q
inductive Reach (F:List Sq):Sq->Prop
 | base:Reach F (-1,-1)
 | step {p q:Sq}:Reach F p->Amj p q->q∉F->Reach F q
structure Closed (F L:List Sq):Prop where
 st:(-1,-1)∈L
 ok:∀ x∈L,Reach F x
 cl:∀ p∈L,∀ q,Amj p q->q∉F->q∈L
end Ma

set_option Elab.async false
set_option linter.all false
namespace M
open PySem PySem.Spec PyProof.Rows L2 Ma
@[simp] theorem Ao0 {α:Type}(a:α):(pure a:R α)=.ok a:=rfl
@[simp] theorem Ans (m n:EX) (E:Ev):Bg m n E=(m E >>= λ o=>match o with|.nx E'=>n E'|o=>.ok o):=rfl
@[simp] theorem Ao8 (E:Ev):Ga E=.ok (.nx E):=rfl
@[simp] theorem Am2 (m:EV) (E:Ev):Ey m E=(m E >>= λ d=>.ok (.rt d)):=rfl
@[simp] theorem Ald (E:Ev):Akz E=.ok (.rt .non):=rfl
@[simp] theorem Aoh (i:Nat) (m:EV) (E:Ev):Es i m E=(m E >>= λ d=>.ok (.nx (E.set i (.fz d)))):=rfl
@[simp] theorem Aoo (i:Nat) (m:EV) (E:Ev):Vr i m E=(m E >>= λ d=>.ok (.nx (E.set i (.ow d)))):=rfl
@[simp] theorem Arb (m:EV) (E:Ev):xDo m E=(m E >>= λ _=>.ok (.nx E)):=rfl
@[simp] theorem Ig (t:Ev->R Bool) (a b:EX) (E:Ev):xIf t a b E=(t E >>= λ k=>if k=true then a E else b E):=rfl
@[simp] theorem An2 (i:Nat) (m:EX) (E:Ev):Aem i m E=m (frz i E):=rfl
@[simp] theorem Aoz (i:Nat) (m:EV) (E:Ev):Aao i m E=(match E[i]? with
 | some (.ow (.lst ds))=>m E >>= λ d=>if ds.length<1000000 then .ok (.nx (E.set i (.ow (.lst (ds++[d]))))) else .no
 | _=>.no):=rfl
@[simp] theorem Aob (i:Nat) (m:EV) (E:Ev):Akm i m E=(match E[i]? with
 | some (.ow (.lst ds))=>m E >>= λ d=>match d with
  | .lst es=>if ds.length+es.length<1000000 then .ok (.nx (E.set i (.ow (.lst (ds++es))))) else .no
  | _=>.no
 | _=>.no):=rfl
@[simp] theorem Ank (i j:Nat) (E:Ev):Ap1 i j E=(match E[i]? with
 | some (.ow (.lst ds))=>match ds[ds.length-1]? with
  | some d=>.ok (.nx ((E.set i (.ow (.lst ds.dropLast))).set j (.fz d)))
  | none=>.no
 | _=>.no):=rfl
@[simp] theorem Afy (i:Nat) (mk mv:EV) (E:Ev):Jx i mk mv E=(match E[i]? with
 | some (.ow (.dic kvs))=>mv E >>= λ d=>mk E >>= λ k=>match keyOf k with
  | some ks=>if kvs.length<1000000 then .ok (.nx (E.set i (.ow (.dic (dput kvs ks d))))) else .no
  | none=>.no
 | _=>.no):=rfl
@[simp] theorem Jr (mi:Ev->R (List D)) (set:D->Ev->Option Ev) (b:EX) (E:Ev):Mg mi set b E=(mi E >>= λ ds=>forL set b ds E):=rfl
@[simp] theorem Asr (i:Nat) (E:Ev) (d:D) (h:E[i]?=some (.fz d)):vE i E=.ok d:=by unfold vE;rw [h]
@[simp] theorem Ar8 (i:Nat) (E:Ev) (d:D) (h:E[i]?=some (.ow d)):vE i E=.ok d:=by unfold vE;rw [h]
@[simp] theorem Ash (i:Nat) (E:Ev) (d:D) (h:E[i]?=some (.fz d)):vF i E=.ok d:=by unfold vF;rw [h]
@[simp] theorem As9 (d:D) (E:Ev):kE d E=.ok d:=rfl
@[simp] theorem Aoc (f:D->Option D) (a:EV) (E:Ev):e1 f a E=(a E >>= λ x=>ofO (f x)):=rfl
@[simp] theorem Aml (f:D->D->Option D) (a b:EV) (E:Ev):e2 f a b E=(a E >>= λ x=>b E >>= λ y=>ofO (f x y)):=rfl
@[simp] theorem Anf (E:Ev):Bf E=.ok []:=rfl
@[simp] theorem Aed (a:EV) (r:Ev->R (List D)) (E:Ev):Ac a r E=(a E >>= λ x=>r E >>= λ xs=>.ok (x :: xs)):=rfl
noncomputable def unB:D->R Bool
 | .bl b=>.ok b
 | _=>.no
noncomputable def Aj9 (x:D) (y:R D):R D:=match x with
 | .bl true=>y
 | .bl false=>.ok (.bl false)
 | _=>.no
noncomputable def orB (x:D) (y:R D):R D:=match x with
 | .bl true=>.ok (.bl true)
 | .bl false=>y
 | _=>.no
@[simp] theorem Aqw (b:Bool):unB (.bl b)=.ok b:=rfl
@[simp] theorem Anr (y:R D):Aj9 (.bl true) y=y:=rfl
@[simp] theorem Am3 (y:R D):Aj9 (.bl false) y=.ok (.bl false):=rfl
@[simp] theorem Ark (y:R D):orB (.bl true) y=.ok (.bl true):=rfl
@[simp] theorem Aqi (y:R D):orB (.bl false) y=y:=rfl
@[simp] theorem Amz (b c:Bool):Aj9 (.bl b) (.ok (.bl c))=.ok (.bl (b && c)):=by cases b<;>rfl
@[simp] theorem Aoq (b c:Bool):orB (.bl b) (.ok (.bl c))=.ok (.bl (b || c)):=by cases b<;>rfl
@[simp] theorem Aj8 (b c:Bool):(if b=true then R.ok c else R.ok false)=R.ok (b && c):=by cases b<;>rfl
@[simp] theorem Amr (b c:Bool):(if b=true then R.ok true else R.ok c)=R.ok (b || c):=by cases b<;>rfl
@[simp] theorem Akq (p:Prop) [Decidable p] (c:Bool):(if p then R.ok c else R.ok false)=R.ok (decide p && c):=by by_cases h:p<;>simp [h]
@[simp] theorem Ak2 (p:Prop) [Decidable p] (c:Bool):(if p then R.ok true else R.ok c)=R.ok (decide p || c):=by by_cases h:p<;>simp [h]
@[simp] theorem Anz (a:EV) (E:Ev):Bh a E=(a E >>= unB):=by
 unfold Bh;congr 1
@[simp] theorem Anx (a:EV) (E:Ev):Ase a E=(a E >>= λ d=>ofO (Akh d)):=rfl
@[simp] theorem Aok (t u:Ev->R Bool) (E:Ev):Agu t u E=(t E >>= λ k=>if k=true then u E else .ok false):=rfl
@[simp] theorem Zd (t u:Ev->R Bool) (E:Ev):bOr t u E=(t E >>= λ k=>if k=true then .ok true else u E):=rfl
@[simp] theorem Aor (t:Ev->R Bool) (E:Ev):Ot t E=(t E >>= λ k=>.ok (!k)):=rfl
@[simp] theorem Ana (t u:EV) (E:Ev):Aam t u E=(t E >>= λ d=>Aj9 d (u E)):=rfl
@[simp] theorem Apv (t u:EV) (E:Ev):eOr t u E=(t E >>= λ d=>orB d (u E)):=rfl
noncomputable def Ao9:D->R D
 | .bl k=>.ok (.bl (!k))
 | _=>.no
@[simp] theorem Am8 (b:Bool):Ao9 (.bl b)=.ok (.bl (!b)):=rfl
@[simp] theorem Ao5 (t:EV) (E:Ev):Anw t E=(t E >>= Ao9):=by
 unfold Anw;congr 1
@[simp] theorem Asm (t:Ev->R Bool) (a b:EV) (E:Ev):eIf t a b E=(t E >>= λ k=>if k=true then a E else b E):=rfl
@[simp] theorem Aow (t:Ev->R (List D)) (E:Ev):G6 t E=(t E >>= λ ds=>if ds.length<=1000 then .ok (.tup ds) else .no):=rfl
@[simp] theorem Ant (t:Ev->R (List D)) (E:Ev):K6 t E=(t E >>= λ ds=>if ds.length<=1000 then .ok (.lst ds) else .no):=rfl
@[simp] theorem Aro (a:EV) (lo hi:Ev->R (Option Int)) (E:Ev):eSl a lo hi E=(a E >>= λ x=>lo E >>= λ l=>hi E >>= λ h=>ofO (fSl x l h)):=rfl
@[simp] theorem Alb (m:EV) (E:Ev):Eh m E=(m E >>= λ d=>match d with|.int i=>.ok (some i)|_=>.no):=rfl
@[simp] theorem Ak4 (E:Ev):Ei E=.ok none:=rfl
@[simp] theorem Ar0 (f g:D->D->Option D) (ma mb mc:EV) (E:Ev):eCh f g ma mb mc E=(ma E >>= λ x=>mb E >>= λ y=>ofO (f x y) >>= λ t=>match t with
 | .bl true=>mc E >>= λ z=>ofO (g y z)
 | .bl false=>.ok (.bl false)
 | _=>.no):=rfl
@[simp] theorem Asb (mk mv:EV) (E:Ev):eD1 mk mv E=(mk E >>= λ k=>mv E >>= λ v=>match keyOf k with
 | some ks=>if Ab0 v=true then .ok (.dic [(ks,v)]) else .no
 | none=>.no):=rfl
@[simp] theorem Zj (n:Nat) (dn:List D->R D) (ma:Ev->R (List D)) (E:Ev):Bj n dn ma E=(ma E >>= λ ds=>if ds.length=n then dn ds else .no):=rfl
@[simp] theorem Aj7 (i:Nat) (m:EV) (E:Ev):Aiy i m E=(m (frz i E) >>= flat):=rfl
@[simp] theorem Atb (m:EV) (E:Ev):iD m E=(m E >>= λ d=>match d with|.lst ds=>.ok ds|_=>.no):=rfl
@[simp] theorem As4 (m:EV) (E:Ev):iT m E=(m E >>= λ d=>match d with|.tup ds=>.ok ds|_=>.no):=rfl
noncomputable def rng (a b:Int):List Int:=(List.range (b-a).toNat).map λ (k:Nat)=>a+(k:Int)
theorem Xb {a b x:Int}:x∈rng a b ↔ a<=x/\x<b:=by
 unfold rng
 simp only [List.mem_map,List.mem_range]
 constructor
 ·rintro⟨k,hk,rfl⟩;omega
 ·rintro⟨h1,h2⟩;exact⟨(x-a).toNat,by omega,by omega⟩
theorem M9 (a b:Int):(rng a b).length=(b-a).toNat:=by simp [rng]
theorem Py (a b:Int):(rng a b).Pairwise (·<·):=by
 unfold rng
 rw [List.pairwise_map]
 exact List.pairwise_lt_range.imp λ h=>by omega
@[simp] theorem Apq (m:EV) (E:Ev):iR1 m E=(m E >>= λ d=>match d with
 | .int n=>if n.natAbs<1000000 then .ok ((rng 0 n).map D.int) else .no
 | _=>.no):=by
 unfold iR1 rng
 congr 1
 funext d
 cases d<;>simp
 rfl
@[simp] theorem Aqp (m n:EV) (E:Ev):iR2 m n E=(m E >>= λ d=>n E >>= λ e=>match d,e with
 | .int a,.int b=>if a.natAbs<1000000/\b.natAbs<1000000 then .ok ((rng a b).map D.int) else .no
 | _,_=>.no):=by
 unfold iR2 rng
 congr 1
 funext d
 congr 1
 funext e
 cases d<;>cases e<;>simp
 rfl
@[simp] theorem Atf (ma mb:EV) (E:Ev):iZ ma mb E=(ma E >>= λ x=>mb E >>= λ y=>match x,y with
 | .lst xs,.lst ys=>.ok (List.zipWith (λ a b=>D.tup [a,b]) xs ys)
 | _,_=>.no):=rfl
@[simp] theorem Atg (i:Nat) (d:D) (E:Ev):gN i d E=some (E.set i (.fz d)):=rfl
@[simp] theorem Ata (i j:Nat) (a b:D) (E:Ev):gT i j (.tup [a,b]) E=some ((E.set i (.fz a)).set j (.fz b)):=rfl
@[simp] theorem Ala (E:Ev):Jy E=.ok true:=rfl
@[simp] theorem Aqh (n:Nat) (m:EX) (ds:List D):den n m ds=ended (m (ds.map Sl.fz++List.replicate (n-ds.length) .un)):=rfl
@[simp] theorem Akv (d:D):ended (.ok (.rt d))=.ok d:=rfl
@[simp] theorem Akn (E:Ev):ended (.ok (.nx E))=.ok .non:=rfl
@[simp] theorem Alx (b:Bool):flat (.bl b)=.ok (.bl b):=rfl
@[simp] theorem Akr (b:Int):flat (.int b)=.ok (.int b):=rfl
@[simp] theorem Akt:flat .non=.ok .non:=rfl
theorem Amo (i:Nat) (E:Ev):frz i E=(match E[i]? with|some (.ow d)=>E.set i (.fz d)|_=>E):=by
 unfold frz;rfl
@[simp] theorem An0 (a b:Int):Cg (.int a) (.int b)=some (.int (a+b)):=rfl
@[simp] theorem An8 (a b:Int):Zk (.int a) (.int b)=some (.int (a-b)):=rfl
@[simp] theorem An3 (a:Int):Apx (.int a)=some (.int (-a)):=rfl
@[simp] theorem Am9 (a b:Int):Ags (.int a) (.int b)=if a.natAbs<2 ^ 63\/b.natAbs<2 ^ 63 then some (.int (a * b)) else none:=rfl
@[simp] theorem Ani (a b:Int):T8 (.int a) (.int b)=if 0<b/\b<1073741824 then some (.int (a / b)) else none:=rfl
@[simp] theorem Ao3 (a b:Int):Kd (.int a) (.int b)=if 0<b then some (.int (a % b)) else none:=rfl
@[simp] theorem Arw (a b:Int):fLt (.int a) (.int b)=some (.bl (decide (a<b))):=rfl
@[simp] theorem Anu (a b:Int):Adj (.int a) (.int b)=some (.bl (decide (a<b))):=rfl
@[simp] theorem Aq4 (a b:Int):fLe (.int a) (.int b)=some (.bl (decide (a<=b))):=rfl
@[simp] theorem Ara (a b:Int):fGt (.int a) (.int b)=some (.bl (decide (b<a))):=rfl
@[simp] theorem Ap3 (a b:Int):fGe (.int a) (.int b)=some (.bl (decide (b<=a))):=rfl
@[simp] theorem Aoy (a b:Int):Ar7 (.int a) (.int b)=some (.int (if b > a then b else a)):=rfl
@[simp] theorem Aot (a b:Int):Aru (.int a) (.int b)=some (.int (if b<a then b else a)):=rfl
theorem Wx {α:Type} [DecidableEq α] (a b:α):(a == b)=decide (a=b):=by by_cases h:a=b<;>simp [h]
@[simp] theorem Apo (a b:Int):fEq (.int a) (.int b)=some (.bl (decide (a=b))):=by rw [<-Wx];rfl
@[simp] theorem Aa6 (a b:Int):fNe (.int a) (.int b)=some (.bl (!(decide (a=b)))):=by rw [<-Wx];rfl
@[simp] theorem Aq8 (a b:Bool):fEq (.bl a) (.bl b)=some (.bl (a == b)):=rfl
@[simp] theorem Asd (a b:Bool):fNe (.bl a) (.bl b)=some (.bl (!(a == b))):=rfl
@[simp] theorem Aou (ds:List D):Hf (.lst ds)=some (.int ds.length):=rfl
@[simp] theorem Ao2 (ds:List D):Hf (.tup ds)=some (.int ds.length):=rfl
@[simp] theorem Anb (ds:List (List Int × D)):Hf (.dic ds)=some (.int ds.length):=rfl
@[simp] theorem Apj (ds:List Int):Hf (.scr ds)=some (.int ds.length):=rfl
@[simp] theorem Ami (ds:List D):Ak8 (.lst ds)=some (.lst ds):=rfl
@[simp] theorem Apb (b:Bool):Akh (.bl b)=some b:=rfl
@[simp] theorem Anh (ds:List D):Akh (.lst ds)=some (!ds.isEmpty):=rfl
noncomputable abbrev dS (s:Sq):D:=.tup [.int s.1,.int s.2]
noncomputable abbrev dL (L:List Sq):D:=.lst (L.map dS)
noncomputable abbrev dD (L:List Sq):D:=.dic (L.map λ s=>([s.1,s.2],.bl true))
theorem Afo {α:Type}{xs:List α}{i:Int}(h0:0<=i) (h1:i<xs.length):atI xs i=xs[i.toNat]?:=by
 unfold atI ixN
 rw [if_pos h0,if_pos h1];rfl
theorem Fb {α:Type}{xs:List α}{i:Nat}{x:α}(h:xs[i]?=some x):atI xs (i:Int)=some x:=by
 have h1:i<xs.length:=(List.getElem?_eq_some_iff.mp h).1
 rw [Afo (by omega) (by omega)]
 simpa using h
@[simp] theorem Apl (a:D) (r:List D):fIx (.tup (a :: r)) (.int 0)=some a:=Fb (i:=0) rfl
@[simp] theorem Ary (a b:D) (r:List D):fIx (.tup (a :: b :: r)) (.int 1)=some b:=Fb (i:=1) rfl
@[simp] theorem Aqo (a b c:D) (r:List D):fIx (.tup (a :: b :: c :: r)) (.int 2)=some c:=Fb (i:=2) rfl
@[simp] theorem Aqq {α:Type}(a:α) (r:List α):atI (a :: r) 0=some a:=Fb (i:=0) rfl
@[simp] theorem Ap5 {α:Type}(a b:α) (r:List α):atI (a :: b :: r) 1=some b:=Fb (i:=1) rfl
@[simp] theorem Arp {α:Type}(a b c:α) (r:List α):atI (a :: b :: c :: r) 2=some c:=Fb (i:=2) rfl
@[simp] theorem Ahe (ds:List D) (i:Int):fIx (.lst ds) (.int i)=atI ds i:=rfl
noncomputable def Goes (r:R Out) (P:Ev->Prop):Prop:=match r with
 | .ok (.nx E)=>P E
 | .ok (.ct E)=>P E
 | _=>False
@[simp] theorem Ak6 (E:Ev) (P:Ev->Prop):Goes (.ok (.nx E)) P=P E:=rfl
@[simp] theorem Aky (E:Ev) (P:Ev->Prop):Goes (.ok (.ct E)) P=P E:=rfl
theorem Ali {r:R Out}{E:Ev}{P:Ev->Prop}(h:r=.ok (.nx E)) (hp:P E):Goes r P:=by rw [h];exact hp
section
variable {set:D->Ev->Option Ev}{b:EX}{c:Ev->R Bool}
theorem Qe {d:D}{ds:List D}{E E1:Ev}{P:Ev->Prop}(h1:set d E=some E1) (h2:Goes (b E1) P):∃ E2,P E2/\forL set b (d :: ds) E=forL set b ds E2:=by
 conv=>rhs;intro E2;rhs;lhs;unfold forL
 rw [h1]
 unfold Goes at h2
 split at h2
 ·rename_i E2 e;exact⟨E2,h2,by dsimp only;rw [e];rfl⟩
 ·rename_i E2 e;exact⟨E2,h2,by dsimp only;rw [e];rfl⟩
 ·exact h2.elim
theorem Lp {α S:Type}(f:α->D) (st:S->α->S) (I:S->Ev->Prop):∀ (xs:List α) (s:S) (E:Ev),(∀ s E,I s E->∀ x∈xs,∃ E1,set (f x) E=some E1/\Goes (b E1) (I (st s x)))->I s E →
  ∃ E',forL set b (xs.map f) E=.ok (.nx E')/\I (xs.foldl st s) E'
 | [],s,E,_,h0=>⟨E,rfl,h0⟩
 | x :: r,s,E,h,h0=>by
  obtain⟨E1,e1,e2⟩:=h s E h0 x (by simp)
  obtain⟨E2,i2,e3⟩:=Qe (ds:=r.map f) e1 e2
  obtain⟨E',e4,e5⟩:=Lp f st I r (st s x) E2 (λ s E hE y hy=>h s E hE y (List.mem_cons_of_mem _ hy)) i2
  exact⟨E',by rw [List.map_cons,e3];exact e4,e5⟩
theorem Dv {α:Type}(f:α->D) (I:List α->Ev->Prop) (xs:List α) (h:∀ pre x post,xs=pre++x :: post->∀ E,I pre E->∃ E1,set (f x) E=some E1/\Goes (b E1) (I (pre++[x]))) :
  ∀ (E:Ev),I [] E->∃ E',forL set b (xs.map f) E=.ok (.nx E')/\I xs E':=by
 have key:∀ (post pre:List α) (E:Ev),xs=pre++post->I pre E->∃ E',forL set b (post.map f) E=.ok (.nx E')/\I xs E':=by
  intro post
  induction post with
  | nil=>intro pre E e h0;exact⟨E,rfl,by rw [e,List.append_nil];exact h0⟩
  | cons x r ih =>
   intro pre E e h0
   obtain⟨E1,e1,e2⟩:=h pre x r e E h0
   obtain⟨E2,i2,e3⟩:=Qe (ds:=r.map f) e1 e2
   obtain⟨E',e4,e5⟩:=ih (pre++[x]) E2 (by rw [e];simp) i2
   exact⟨E',by rw [List.map_cons,e3];exact e4,e5⟩
 exact λ E h0=>key xs [] E rfl h0
noncomputable def Alo {α S:Type}(st:S->α->D ⊕ S):List α->S->D ⊕ S
 | [],s=>.inr s
 | x :: r,s=>match st s x with
  | .inl d=>.inl d
  | .inr s'=>Alo st r s'
end
theorem J3 {α:Type}{set:D->Ev->Option Ev}{mt:Ev->R Bool}{me:EV}{E:Ev}(f:α->D) (p:α->Bool) (g:α->D):∀ (xs:List α),(∀ x∈xs,∃ E1,set (f x) E=some E1/\mt E1=.ok (p x)/\(p x=true->me E1=.ok (g x))) →
  Gu set mt me E (xs.map f)=.ok ((xs.filter p).map g)
 | [],_=>rfl
 | x :: r,h=>by
  obtain⟨E1,e1,e2,e3⟩:=h x (by simp)
  rw [List.map_cons]
  unfold Gu
  rw [e1]
  dsimp only
  rw [e2]
  have ih:=J3 f p g r λ y hy=>h y (List.mem_cons_of_mem _ hy)
  by_cases hp:p x=true
  ·rw [hp,List.filter_cons_of_pos hp,List.map_cons]
   simp only [R.ok_bind,if_true]
   rw [e3 hp,ih];rfl
  ·rw [List.filter_cons_of_neg hp]
   have:p x=false:=by simpa using hp
   rw [this]
   simp only [R.ok_bind,Bool.false_eq_true,if_false]
   exact ih
theorem Ih {α:Type}{set:D->Ev->Option Ev}{me:EV}{E:Ev}(f:α->D) (g:α->D) (xs:List α) (h:∀ x∈xs,∃ E1,set (f x) E=some E1/\me E1=.ok (g x)) :
  Gu set Jy me E (xs.map f)=.ok (xs.map g):=by
 rw [J3 f (λ _=>true) g xs λ x hx=>by obtain⟨E1,e1,e2⟩:=h x hx;exact⟨E1,e1,rfl,λ _=>e2⟩,List.filter_eq_self.2 (by simp)]
@[simp] theorem R9 (ts:List Nat) (set:D->Ev->Option Ev) (mi:Ev->R (List D)) (mt:Ev->R Bool) (me:EV) (E:Ev):Fd ts set mi mt me E=(if Aan ts E=true then (mi E >>= λ ds=>if ds.length<=1000000 then (Gu set mt me (clr ts E) ds >>= λ ys=>.ok (.lst ys)) else .no) else .no):=rfl
end M

set_option Elab.async false
set_option linter.all false
namespace M
open PySem PySem.Spec PyProof.Rows L2 Ma
theorem Al6 (a b:Sq):fLt (dS a) (dS b)=some (.bl (decide (Slt a b))):=by
 show (some (D.bl (HT.lexLt [a.1,a.2] [b.1,b.2])))=_
 simp only [HT.lexLt_cons,HT.lexLt_nil_nil]
 unfold Slt
 by_cases h:a.1=b.1
 ·simp [h];omega
 ·simp [h]
theorem Ame (a b:Sq):fGe (dS a) (dS b)=some (.bl (!(decide (Slt a b)))):=by
 show (some (D.bl (!(HT.lexLt [a.1,a.2] [b.1,b.2]))))=_
 simp only [HT.lexLt_cons,HT.lexLt_nil_nil]
 unfold Slt
 by_cases h:a.1=b.1
 ·simp [h];omega
 ·simp [h]
theorem Abk (ds:List D) (k:Nat):cutD ds (some (k:Int)) none=ds.drop k:=by
 unfold cutD
 rw [HT.sIx_nat,HT.sIx_none]
 by_cases h:k<=ds.length
 ·rw [Nat.min_eq_left h,List.take_of_length_le (by simp)]
 ·rw [Nat.min_eq_right (by omega),List.drop_of_length_le (Nat.le_refl _),List.drop_of_length_le (by omega)];simp
@[simp] theorem Apz (ds:List D):fSl (.lst ds) (some 1) none=some (.lst (ds.drop 1)):=by
 show some (D.lst (cutD ds (some ((1:Nat):Int)) none))=_
 rw [Abk]
theorem Acg (F G:List Sq):List.zipWith (λ a b=>D.tup [a,b]) (F.map dS) (G.map dS)=(F.zip G).map λ p=>D.tup [dS p.1,dS p.2]:=by
 rw [List.zipWith_map,List.zip,List.map_zipWith]
@[simp] theorem Acq (a b:Sq):eqb (dS a) (dS b)=decide (a=b):=by
 rcases a with ⟨a1,a2⟩;rcases b with ⟨b1,b2⟩
 simp only [eqb,Jf,Prod.mk.injEq,Bool.and_true]
 by_cases h:a1=b1<;>by_cases h':a2=b2<;>simp [h,h']
@[simp] theorem Ap0 (a:Sq):pl 3 (dS a)=true:=rfl
@[simp] theorem Aqe (a:Sq):pl 4 (dS a)=true:=rfl
theorem Uk:∀ (L:List Sq),pls 3 (L.map dS)=true
 | []=>rfl
 | a :: r=>by
  have:=Uk r
  simp [pls,this]
theorem Agh (q:Sq):∀ (L:List Sq),((L.map dS).any λ y=>eqb y (dS q))=decide (q∈L)
 | []=>rfl
 | a :: r=>by
  rw [List.map_cons,List.any_cons,Agh q r,Acq]
  by_cases h:a=q
  ·simp [h]
  ·have h':¬ q=a:=λ e=>h e.symm
   simp [h,h']
theorem Alu (q:Sq) (L:List Sq):fIn (dS q) (dL L)=some (.bl (decide (q∈L))):=by
 show (if (pl 3 (dS q) && pls 3 (L.map dS))=true then some (D.bl ((L.map dS).any λ y=>eqb y (dS q))) else none)=_
 rw [Uk,Agh];rfl
theorem Acs (q:Sq) (L:List Sq):Z2 (dS q) (dL L)=some (.bl (!(decide (q∈L)))):=by
 show (if (pl 3 (dS q) && pls 3 (L.map dS))=true then some (D.bl (!((L.map dS).any λ y=>eqb y (dS q)))) else none)=_
 rw [Uk,Agh];rfl
theorem Ys (q:Sq):keyOf (dS q)=some [q.1,q.2]:=rfl
theorem Xa:∀ (L M:List Sq),Jf (L.map dS) (M.map dS)=decide (L=M)
 | [],[]=>rfl
 | [],b :: r=>by simp [Jf]
 | a :: r,[]=>by simp [Jf]
 | a :: r,b :: s=>by
  rw [List.map_cons,List.map_cons,Jf,Acq,Xa r s]
  by_cases h:a=b<;>by_cases h':r=s<;>simp [h,h']
theorem Ab9 (L:List Sq):pl 4 (dL L)=true:=Uk L
@[simp] theorem Aqz (L M:List Sq):fEq (dL L) (dL M)=some (.bl (decide (L=M))):=by
 show (if (pl 4 (dL L) && pl 4 (dL M))=true then some (D.bl (Jf (L.map dS) (M.map dS))) else none)=_
 rw [Ab9,Ab9,Xa];rfl
@[simp] theorem Ar1 (L M:List Sq):fNe (dL L) (dL M)=some (.bl (!(decide (L=M)))):=by
 show (if (pl 4 (dL L) && pl 4 (dL M))=true then some (D.bl (!(Jf (L.map dS) (M.map dS)))) else none)=_
 rw [Ab9,Ab9,Xa];rfl
theorem Al5 (a b:Sq):fEq (dS a) (dS b)=some (.bl (decide (a=b))):=by
 show (if (pl 4 (dS a) && pl 4 (dS b))=true then some (D.bl (eqb (dS a) (dS b))) else none)=_
 rw [Acq];rfl
theorem Am1 (a b:Sq):fNe (dS a) (dS b)=some (.bl (!(decide (a=b)))):=by
 show (if (pl 4 (dS a) && pl 4 (dS b))=true then some (D.bl (!(eqb (dS a) (dS b)))) else none)=_
 rw [Acq];rfl
theorem Zx (q:Sq):∀ (L:List Sq),(Mh (L.map λ s=>([s.1,s.2],D.bl true)) [q.1,q.2]).isSome=decide (q∈L)
 | []=>rfl
 | a :: r=>by
  have ih:=Zx q r
  rw [List.map_cons]
  unfold Mh
  rcases a with ⟨a1,a2⟩;rcases q with ⟨q1,q2⟩
  by_cases h:a1=q1/\a2=q2
  ·obtain⟨rfl,rfl⟩:=h;simp
  ·have h1:¬ ([a1,a2]=[q1,q2]):=λ e=>h (by simpa using e)
   have h2:¬ ((q1,q2)=(a1,a2)):=λ e=>h (by simp at e;exact⟨e.1.symm,e.2.symm⟩)
   simp only [h1,if_false]
   rw [ih]
   simp only [List.mem_cons,h2,false_or]
theorem Ail (q:Sq) (L:List Sq):Ae5 (dS q) (dD L)=some (.bl (decide (q∈L))):=by
 show ((keyOf (dS q)).map λ ks=>D.bl (Mh (L.map λ s=>([s.1,s.2],D.bl true)) ks).isSome)=_
 rw [Ys,Option.map_some,Zx]
theorem Yt (q:Sq) (L:List Sq):Gp (dS q) (dD L)=some (.bl (!(decide (q∈L)))):=by
 show ((keyOf (dS q)).map λ ks=>D.bl (!(Mh (L.map λ s=>([s.1,s.2],D.bl true)) ks).isSome))=_
 rw [Ys,Option.map_some,Zx]
@[simp] theorem Amt (a b:Int):keyOf (.tup [.int a,.int b])=some [a,b]:=rfl
@[simp] theorem Arh (a b c d:Int):fLt (.tup [.int a,.int b]) (.tup [.int c,.int d])=some (.bl (decide (Slt (a,b) (c,d)))):=Al6 (a,b) (c,d)
@[simp] theorem Aqg (a b c d:Int):fGe (.tup [.int a,.int b]) (.tup [.int c,.int d])=some (.bl (!(decide (Slt (a,b) (c,d))))):=Ame (a,b) (c,d)
@[simp] theorem Asl (a b c d:Int):fEq (.tup [.int a,.int b]) (.tup [.int c,.int d])=some (.bl (decide ((a,b)=(c,d)))):=Al5 (a,b) (c,d)
@[simp] theorem Ap6 (a b c d:Int):fNe (.tup [.int a,.int b]) (.tup [.int c,.int d])=some (.bl (!(decide ((a,b)=(c,d))))):=Am1 (a,b) (c,d)
@[simp] theorem Asu (a b:Int) (L:List Sq):fIn (.tup [.int a,.int b]) (dL L)=some (.bl (decide ((a,b)∈L))):=Alu (a,b) L
@[simp] theorem Ako (a b:Int) (L:List Sq):Z2 (.tup [.int a,.int b]) (dL L)=some (.bl (!(decide ((a,b)∈L)))):=Acs (a,b) L
@[simp] theorem Anp (a b:Int) (L:List Sq):Ae5 (.tup [.int a,.int b]) (dD L)=some (.bl (decide ((a,b)∈L))):=Ail (a,b) L
@[simp] theorem Ai2 (a b:Int) (L:List Sq):Gp (.tup [.int a,.int b]) (dD L)=some (.bl (!(decide ((a,b)∈L)))):=Yt (a,b) L
theorem Anq (q:Sq) (L:List Sq) (h:q∉L):dput (L.map λ s=>([s.1,s.2],D.bl true)) [q.1,q.2] (.bl true)=(L++[q]).map λ s=>([s.1,s.2],D.bl true):=by
 unfold dput
 have:((L.map λ s=>([s.1,s.2],D.bl true)).any λ kv=>decide (kv.1=[q.1,q.2]))=false:=by
  rw [List.any_eq_false]
  intro x hx
  obtain⟨s,hs,rfl⟩:=List.mem_map.mp hx
  simp only [decide_eq_true_eq]
  intro e
  apply h
  have:s=q:=by
   rcases s with ⟨s1,s2⟩;rcases q with ⟨q1,q2⟩
   simpa using e
  rw [<-this];exact hs
 rw [this]
 simp
end M

set_option Elab.async false
set_option linter.all false
set_option maxRecDepth 100000
namespace M
open PySem PySem.Spec PyProof.Rows L2 Ma
theorem Aco {F:List Sq}(h:F.Pairwise Slt):∀ p∈F.zip (F.drop 1),Slt p.1 p.2:=by
 intro p hp
 obtain⟨i,hi,e⟩:=List.mem_iff_getElem.mp hp
 rw [List.pairwise_iff_getElem] at h
 simp at hi
 have:=h i (i+1) (by omega) (by omega) (by omega)
 rw [<-e]
 simp only [List.getElem_zip,List.getElem_drop,Nat.add_comm 1 i]
 exact this
noncomputable def Ag2 (a b c d:Int):List Sq:=(rng a b).flatMap λ r=>(rng c d).map λ k=>(r,k)
theorem Aax {a b c d:Int}{q:Sq}:q∈Ag2 a b c d ↔ a<=q.1/\q.1<b/\c<=q.2/\q.2<d:=by
 unfold Ag2
 simp only [List.mem_flatMap,List.mem_map,Xb]
 constructor
 ·rintro⟨r,h,k,h',rfl⟩;exact⟨h.1,h.2,h'.1,h'.2⟩
 ·rintro⟨h1,h2,h3,h4⟩;exact⟨q.1,⟨h1,h2⟩,q.2,⟨h3,h4⟩,rfl⟩
theorem Tr (a b c d:Int):(Ag2 a b c d).length=(b-a).toNat * (d-c).toNat:=by
 unfold Ag2
 rw [List.length_flatMap]
 simp only [List.length_map,M9,List.map_const',List.sum_replicate_nat]
structure Dfs (F R W:List Sq):Prop where
 nd:R.Nodup
 st:(-1,-1)∈R
 ok:∀ x∈R,Reach F x
 wr:∀ x∈W,x∈R
 wn:W.Nodup
 cl:∀ p∈R,p∉W->∀ q,Amj p q->q∉F->q∈R
noncomputable def rnd (q:Sq) (R:List Sq):Bool:=(rng (q.1-1) (q.1+2)).any λ r=>(rng (q.2-1) (q.2+2)).any λ c=>decide ((r,c)∈R)
structure Grow (F R:List Sq):Prop where
 nd:R.Nodup
 st:(-1,-1)∈R
 ok:∀ x∈R,Reach F x
noncomputable def outs (F:List Sq):List Sq:=(Ag2 (-1) 9 (-1) 9).filter λ q=>!(decide (q∈F))
@[simp] theorem Aj2 (a b:List D):Cg (.lst a) (.lst b)=if a.length+b.length<=1000000 then some (.lst (a++b)) else none:=rfl
theorem Ek {r:R Out}{E:Ev}{P:Ev->Prop}(hp:P E) (h:r=.ok (.nx E)):Goes r P:=by rw [h];exact hp
noncomputable def rows (pre:List Int):List Sq:=pre.flatMap λ r=>(rng (-1) 9).map λ c=>(r,c)
noncomputable def four (F:List Sq) (s:Sq):Bool:=decide ((s.1-1,s.2-1)∈F) && (decide ((s.1-1,s.2)∈F) && (decide ((s.1,s.2-1)∈F) && decide (s∈F)))
theorem Agp {a b:Int}{pre:List Int}{x:Int}{post:List Int}(e:rng a b=pre++x :: post):pre.length<(b-a).toNat:=by
 have:=congrArg List.length e
 rw [M9] at this
 simp at this;omega
end M

set_option Elab.async false
set_option linter.all false
set_option maxRecDepth 100000
namespace M
open PySem PySem.Spec PyProof.Rows L2 Ma
noncomputable abbrev Fl:=Int × Int × Int
noncomputable abbrev dF (f:Fl):D:=.tup [.int f.1,.int f.2.1,.int f.2.2]
noncomputable abbrev dFL (L:List Fl):D:=.lst (L.map dF)
noncomputable def pos2 (f:Fl):Sq:=(f.1,f.2.1)
noncomputable def Gr (f:Fl):Sq:=if f.2.2=0 then (f.1,f.2.1+1) else (f.1+1,f.2.1)
noncomputable def cells (f:Fl):List Sq:=[pos2 f,Gr f]
noncomputable def cover (L:List Fl):List Sq:=L.flatMap cells
structure Lay (F:List Sq) (L:List Fl):Prop where
 ord:L.Pairwise λ a b=>Slt (pos2 a) (pos2 b)
 way:∀ f∈L,f.2.2=0\/f.2.2=1
 cov:(cover L).Perm F
noncomputable def sk (s:Sq):List Int:=[s.1,s.2]
noncomputable def fk (f:Fl):List Int:=[f.1,f.2.1,f.2.2]
noncomputable def Ajp (k:List Int):Sq:=(k.getD 0 0,k.getD 1 0)
noncomputable def Aqv (k:List Int):Fl:=(k.getD 0 0,k.getD 1 0,k.getD 2 0)
noncomputable def G9 (S:List Sq):List Sq:=(Gk (S.map sk)).map Ajp
noncomputable def Alj (S:List Fl):List Fl:=(Gk (S.map fk)).map Aqv
theorem Ab6 {l:List (List Int)}{S:List Sq}(h:l.Perm (S.map sk)):(l.map Ajp).map sk=l:=by
 rw [List.map_map]
 conv=>rhs;rw [<-List.map_id l]
 refine List.map_congr_left λ k hk=>?_
 obtain⟨s,_,rfl⟩:=List.mem_map.mp (h.mem_iff.mp hk)
 rfl
theorem T5 (S:List Sq):(G9 S).map sk=Gk (S.map sk):=Ab6 (G3 _)
theorem Jk (S:List Sq):(G9 S).Perm S:=by
 have h:=(G3 (S.map sk)).map Ajp
 have e:(S.map sk).map Ajp=S:=by rw [List.map_map,show Ajp ∘ sk=id from rfl,List.map_id]
 rw [e] at h;exact h
theorem Ug (a b:Sq):HT.lexLt (sk a) (sk b)=decide (Slt a b):=by
 unfold sk
 simp only [HT.lexLt_cons,HT.lexLt_nil_nil]
 unfold Slt
 by_cases h:a.1=b.1
 ·simp [h];omega
 ·simp [h]
noncomputable def Flt (a b:Fl):Prop:=Slt (pos2 a) (pos2 b)\/(pos2 a=pos2 b/\a.2.2<b.2.2)
instance (a b:Fl):Decidable (Flt a b):=by unfold Flt;exact inferInstance
theorem Aag (S:List Sq):(G9 S).Pairwise λ a b=>¬ Slt b a:=by
 have h:=Ky (S.map sk)
 rw [<-T5] at h
 unfold Asc at h
 rw [List.pairwise_map] at h
 exact h.imp λ {a b} h=>by rw [Ug] at h;simpa using h
theorem Ro {S:List Sq}(h:S.Nodup):(G9 S).Pairwise Slt:=by
 have h1:=Aag S
 have h2:(G9 S).Nodup:=(Jk S).nodup_iff.mpr h
 have h3:=h1.and h2
 exact h3.imp λ {a b} hh=>by
  rcases Slt.tri (a:=a) (b:=b) with t|t|t
  ·exact t
  ·exact absurd t hh.2
  ·exact absurd t hh.1
theorem Ub {S F:List Sq}(h:F.Pairwise Slt) (p:S.Perm F):G9 S=F:=by
 have h1:(S.map sk).Perm (F.map sk):=p.map sk
 have h2:Asc (F.map sk):=by
  unfold Asc
  rw [List.pairwise_map]
  refine h.imp λ {a b} hh=>?_
  rw [Ug]
  simp only [decide_eq_false_iff_not]
  exact λ z=>Slt.irr (Slt.trans hh z)
 have h3:F.map sk=Gk (S.map sk):=Jt h2 h1.symm
 unfold G9
 rw [<-h3,List.map_map]
 conv=>rhs;rw [<-List.map_id F]
 rfl
theorem Yx:∀ (S:List Sq),Mq (S.map dS)=some (S.map sk)
 | []=>rfl
 | s :: r=>by
  rw [List.map_cons]
  unfold Mq
  rw [Yx r];rfl
theorem Ae7:∀ (S:List Fl),Mq (S.map dF)=some (S.map fk)
 | []=>rfl
 | s :: r=>by
  rw [List.map_cons]
  unfold Mq
  rw [Ae7 r];rfl
theorem Zq (S:List Sq) (h:S.length<67):Zw (dL S)=some (dL (G9 S)):=by
 show ((Mq (S.map dS)).bind λ ks=>if ks.length<67 then some (D.lst ((Gk ks).map kT)) else none)=_
 rw [Yx]
 simp only [Option.bind_some,List.length_map,h,if_true]
 rw [<-T5,List.map_map];rfl
@[simp] theorem Ahc (a b:Fl):eqb (dF a) (dF b)=decide (a=b):=by
 rcases a with ⟨a1,a2,a3⟩;rcases b with ⟨b1,b2,b3⟩
 simp only [eqb,Jf,Prod.mk.injEq,Bool.and_true]
 by_cases h:a1=b1<;>by_cases h':a2=b2<;>by_cases h'':a3=b3<;>simp [h,h',h'']
theorem Uz:∀ (L:List Fl),pls 3 (L.map dF)=true
 | []=>rfl
 | a :: r=>by
  have h1:pl 3 (dF a)=true:=rfl
  have:=Uz r
  simp [pls,this]
  exact h1
theorem Aet (q:Fl):∀ (L:List Fl),((L.map dF).any λ y=>eqb y (dF q))=decide (q∈L)
 | []=>rfl
 | a :: r=>by
  rw [List.map_cons,List.any_cons,Aet q r,Ahc]
  by_cases h:a=q
  ·simp [h]
  ·have h':¬ q=a:=λ e=>h e.symm
   simp [h,h']
@[simp] theorem Asw (a b c:Int) (L:List Fl):fIn (.tup [.int a,.int b,.int c]) (dFL L)=some (.bl (decide ((a,b,c)∈L))):=by
 show (if (pl 3 (dF (a,b,c)) && pls 3 (L.map dF))=true then some (D.bl ((L.map dF).any λ y=>eqb y (dF (a,b,c)))) else none)=_
 rw [Uz,Aet];rfl
@[simp] theorem Aks (a b c:Int) (L:List Fl):Z2 (.tup [.int a,.int b,.int c]) (dFL L)=some (.bl (!(decide ((a,b,c)∈L)))):=by
 show (if (pl 3 (dF (a,b,c)) && pls 3 (L.map dF))=true then some (D.bl (!((L.map dF).any λ y=>eqb y (dF (a,b,c))))) else none)=_
 rw [Uz,Aet];rfl
theorem Tf:∀ (L M:List Fl),Jf (L.map dF) (M.map dF)=decide (L=M)
 | [],[]=>rfl
 | [],b :: r=>by simp [Jf]
 | a :: r,[]=>by simp [Jf]
 | a :: r,b :: s=>by
  rw [List.map_cons,List.map_cons,Jf,Ahc,Tf r s]
  by_cases h:a=b<;>by_cases h':r=s<;>simp [h,h']
theorem Us (L:List Fl):pl 4 (dFL L)=true:=Uz L
@[simp] theorem Am5 (L M:List Fl):fEq (dFL L) (dFL M)=some (.bl (decide (L=M))):=by
 show (if (pl 4 (dFL L) && pl 4 (dFL M))=true then some (D.bl (Jf (L.map dF) (M.map dF))) else none)=_
 rw [Us,Us,Tf];rfl
@[simp] theorem An6 (L M:List Fl):fNe (dFL L) (dFL M)=some (.bl (!(decide (L=M)))):=by
 show (if (pl 4 (dFL L) && pl 4 (dFL M))=true then some (D.bl (!(Jf (L.map dF) (M.map dF)))) else none)=_
 rw [Us,Us,Tf];rfl
@[simp] theorem Aq0 (a b c:D):fSl (.tup [a,b,c]) none (some 2)=some (.tup [a,b]):=rfl
theorem Acd (F G:List Fl):List.zipWith (λ a b=>D.tup [a,b]) (F.map dF) (G.map dF)=(F.zip G).map λ p=>D.tup [dF p.1,dF p.2]:=by
 rw [List.zipWith_map,List.zip,List.map_zipWith]
theorem Adr {α:Type}(p:α->Bool):∀ l:List α,Ae8 (.lst (l.map λ x=>D.bl (p x)))=some (.bl (l.all p)):=by
 intro l
 have h:∀ l:List α,bls (l.map λ x=>D.bl (p x))=some (l.map p):=by
  intro l
  induction l with
  | nil=>rfl
  | cons x r ih=>rw [List.map_cons];unfold bls;rw [ih];rfl
 unfold Ae8
 dsimp only
 rw [h l]
 simp
end M

set_option Elab.async false
set_option linter.all false
set_option maxRecDepth 100000
namespace M
open PySem PySem.Spec PyProof.Rows L2 Ma
noncomputable def pairAt (s:Sq) (w:Int):List Fl:=if w=0 then [(s.1-1,s.2-1,0),(s.1,s.2-1,0)] else [(s.1-1,s.2-1,1),(s.1-1,s.2,1)]
noncomputable def Amp (L:List Fl) (s:Sq) (w:Int):Bool:=(pairAt s w).all λ f=>decide (f∈L)
noncomputable def Agq (L:List Fl) (s:Sq):Int:=if Amp L s (1-(s.1+s.2) % 2) then 1 else if Amp L s (1-(1-(s.1+s.2) % 2)) then -1 else 0
theorem Pu {L:List Fl}{q:Sq}:q∈cover L ↔ ∃ f∈L,q=pos2 f\/q=Gr f:=by
 unfold cover cells
 simp [List.mem_flatMap]
end M

set_option Elab.async false
set_option linter.all false
set_option maxRecDepth 100000
namespace M
open PySem PySem.Spec PyProof.Rows L2 Ma
theorem place_lt {top left wide a b:Int}(hw:0<wide) (h:a<b):Slt (top+a / wide,left+a % wide) (top+b / wide,left+b % wide):=by
 unfold Slt
 simp only
 have h1:=Int.emod_add_mul_ediv a wide
 have h2:=Int.emod_add_mul_ediv b wide
 have h3:a / wide<=b / wide:=Int.ediv_le_ediv hw (by omega)
 rcases Int.lt_or_eq_of_le h3 with h4|h4
 ·left;omega
 ·right
  rw [h4] at h1
  exact⟨by omega,by omega⟩
structure LInv (high wide top left:Int) (pre:List Int) (L:List Fl):Prop where
 ord:L.Pairwise λ a b=>Slt (pos2 a) (pos2 b)
 at':∀ f∈L,∃ k∈pre,pos2 f=(top+k / wide,left+k % wide)
 way:∀ f∈L,(f.2.2=0/\f.2.1+1<left+wide)\/(f.2.2=1/\f.1+1<top+high)
 nd:(cover L).Nodup
 len:L.length<=pre.length
theorem Xd (L:List Fl) (f:Fl):cover (L++[f])=cover L++[pos2 f,Gr f]:=by
 unfold cover;simp [cells]
theorem LInv.same {high wide top left:Int}{pre:List Int}{L:List Fl}(h:LInv high wide top left pre L) (k:Int):LInv high wide top left (pre++[k]) L :=
 ⟨h.ord,λ f hf=>by obtain⟨k',h1,h2⟩:=h.at' f hf;exact⟨k',by simp [h1],h2⟩,h.way,h.nd,by have:=h.len;simp;omega⟩
theorem LInv.new {high wide top left:Int}{pre:List Int}{L:List Fl}(hw:0<wide) (h:LInv high wide top left pre L) {k lies:Int}(hk:∀ k'∈pre,k'<k)
  (hl:(lies=0/\left+k % wide+1<left+wide/\(top+k / wide,left+k % wide+1)∉cover L)\/(lies=1/\top+k / wide+1<top+high)) (hp:(top+k / wide,left+k % wide)∉cover L) :
  LInv high wide top left (pre++[k]) (L++[(top+k / wide,left+k % wide,lies)])/\Gr (top+k / wide,left+k % wide,lies)=(top+k / wide+lies,left+k % wide+1-lies)/\Gr (top+k / wide,left+k % wide,lies)∉cover L/\Gr (top+k / wide,left+k % wide,lies)≠(top+k / wide,left+k % wide):=by
 have hlt:∀ f∈L,Slt (pos2 f) (top+k / wide,left+k % wide):=λ f hf=>by
  obtain⟨k',h1,h2⟩:=h.at' f hf
  rw [h2];exact place_lt hw (hk k' h1)
 have hm:Gr (top+k / wide,left+k % wide,lies)=(top+k / wide+lies,left+k % wide+1-lies):=by
  unfold Gr
  rcases hl with ⟨rfl,_⟩|⟨rfl,_⟩
  ·simp
  ·simp
 have hn:Gr (top+k / wide,left+k % wide,lies)∉cover L:=by
  rw [hm]
  rcases hl with ⟨rfl,_,h3⟩|⟨rfl,_⟩
  ·simpa using h3
  ·intro hc
   obtain⟨f,hf,e⟩:=Pu.1 hc
   have hs:=hlt f hf
   unfold Slt pos2 at hs
   rcases e with e|e
   ·unfold pos2 at e
    simp only [Prod.mk.injEq] at e hs
    omega
   ·unfold Gr at e
    split at e
    ·simp only [Prod.mk.injEq] at e hs;omega
    ·simp only [Prod.mk.injEq] at e hs;omega
 have hne:Gr (top+k / wide,left+k % wide,lies)≠(top+k / wide,left+k % wide):=by
  rw [hm]
  simp only [ne_eq,Prod.mk.injEq]
  rcases hl with ⟨rfl,_⟩|⟨rfl,_⟩<;>omega
 refine⟨⟨?_,λ f hf=>?_,λ f hf=>?_,?_,by have:=h.len;simp;omega⟩,hm,hn,hne⟩
 ·rw [List.pairwise_append]
  refine⟨h.ord,by simp,λ a ha b hb=>?_⟩
  simp at hb;subst hb
  exact hlt a ha
 ·rcases List.mem_append.mp hf with hf|hf
  ·obtain⟨k',h1,h2⟩:=h.at' f hf;exact⟨k',by simp [h1],h2⟩
  ·simp at hf;subst hf;exact⟨k,by simp,rfl⟩
 ·rcases List.mem_append.mp hf with hf|hf
  ·exact h.way f hf
  ·simp at hf;subst hf
   rcases hl with ⟨rfl,h3,_⟩|⟨rfl,h3⟩
   ·exact .inl ⟨rfl,h3⟩
   ·exact .inr ⟨rfl,h3⟩
 ·rw [Xd,List.nodup_append]
  refine⟨h.nd,?_,λ a ha b hb e=>?_⟩
  ·simp only [List.nodup_cons,List.mem_singleton,List.not_mem_nil,not_false_eq_true,List.nodup_nil,and_true]
   exact λ e=>hne e.symm
  ·subst e
   simp only [List.mem_cons,List.not_mem_nil,or_false] at hb
   rcases hb with e|e
   ·rw [e] at ha;exact hp ha
   ·rw [e] at ha;exact hn ha
structure Drawn (high wide top left:Int) (F:List Sq) (L:List Fl):Prop where
 fl:IsFloor F
 lay:Lay F L
 len:(F.length:Int)<=high * wide
theorem LInv.drawn {high wide top left:Int}{L:List Fl}(hw:0<wide) (hh:0<high) (ht:0<=top) (hl:0<=left) (h1:top+high<=8) (h2:left+wide<=8) (h:LInv high wide top left (rng 0 (high * wide)) L):Drawn high wide top left (G9 (cover L)) L:=by
 have hin:∀ s∈cover L,top<=s.1/\s.1<top+high/\left<=s.2/\s.2<left+wide:=by
  intro s hs
  obtain⟨f,hf,e⟩:=Pu.1 hs
  obtain⟨k,hk,hp⟩:=h.at' f hf
  rw [Xb] at hk
  have a1:0<=k / wide:=Int.ediv_nonneg hk.1 (by omega)
  have a2:k / wide<high:=Int.ediv_lt_of_lt_mul hw hk.2
  have a3:=Int.emod_nonneg k (show wide≠0 by omega)
  have a4:=Int.emod_lt_of_pos k hw
  have hp1:f.1=top+k / wide:=congrArg Prod.fst hp
  have hp2:f.2.1=left+k % wide:=congrArg Prod.snd hp
  have hwy:=h.way f hf
  rcases e with e|e
  ·rw [e];unfold pos2;simp only;omega
  ·rw [e];unfold Gr
   split
   ·simp only;omega
   ·simp only;omega
 have hp:=Jk (cover L)
 have hnd:(G9 (cover L)).Nodup:=hp.nodup_iff.mpr h.nd
 refine⟨⟨Ro h.nd,λ s hs=>?_⟩,⟨h.ord,λ f hf=>?_,hp.symm⟩,?_⟩
 ·have:=hin s (hp.mem_iff.mp hs)
  unfold OnB;omega
 ·rcases h.way f hf with e|e
  ·exact .inl e.1
  ·exact .inr e.1
 ·have:=Qh (l2:=Ag2 top (top+high) left (left+wide)) hnd λ x hx=>Aax.2 (hin x (hp.mem_iff.mp hx))
  rw [Tr] at this
  have e1:(top+high-top).toNat=high.toNat:=by omega
  have e2:(left+wide-left).toNat=wide.toNat:=by omega
  rw [e1,e2] at this
  have e3:((high.toNat * wide.toNat:Nat):Int)=high * wide:=by
   rw [Int.natCast_mul,Int.toNat_of_nonneg (by omega),Int.toNat_of_nonneg (by omega)]
  omega
end M

set_option Elab.async false
set_option linter.all false
set_option maxRecDepth 100000
namespace M
open PySem PySem.Spec PyProof.Rows L2 Ma
theorem once {q:Sq}:∀ {L:List Fl},(cover L).Nodup->∀ {f g:Fl},f∈L->g∈L->q∈cells f->q∈cells g->f=g
 | [],_,f,_,hf,_,_,_=>by simp at hf
 | x :: r,h,f,g,hf,hg,qf,qg=>by
  have e:cover (x :: r)=cells x++cover r:=by unfold cover;simp
  rw [e,List.nodup_append] at h
  obtain⟨_,h2,h3⟩:=h
  have inr:∀ {k:Fl},k∈r->q∈cells k->q∈cover r:=λ hk hq=>by unfold cover;exact List.mem_flatMap.mpr ⟨_,hk,hq⟩
  rcases List.mem_cons.mp hf with ef|hf'
  ·rcases List.mem_cons.mp hg with eg|hg'
   ·rw [ef,eg]
   ·rw [ef] at qf;exact absurd rfl (h3 q qf q (inr hg' qg))
  ·rcases List.mem_cons.mp hg with eg|hg'
   ·rw [eg] at qg;exact absurd rfl (h3 q qg q (inr hf' qf))
   ·exact once h2 hf' hg' qf qg
noncomputable def ind (L:List Fl) (f:Fl):Int:=if f∈L then 1 else 0
noncomputable def sg (n:Int):Int:=1-2 * (n % 2)
noncomputable def dl (A B:List Fl) (f:Fl):Int:=ind A f-ind B f
noncomputable def hN (A B:List Fl) (r:Int):Nat->Int
 | 0=>0
 | n+1=>hN A B r n+sg (r+(n+1)) * dl A B (r-1,n,1)
noncomputable def ht (A B:List Fl) (r c:Int):Int:=hN A B r c.toNat
section
variable {F:List Sq}{A B:List Fl}
end
end M

set_option Elab.async false
set_option linter.all false
set_option maxRecDepth 100000
namespace M
open PySem PySem.Spec PyProof.Rows L2 Ma
noncomputable def twin (f:Fl):Fl:=(f.1+1-f.2.2,f.2.1+f.2.2,f.2.2)
noncomputable def tn1 (f:Fl):Fl:=(f.1,f.2.1,1-f.2.2)
noncomputable def tn2 (f:Fl):Fl:=(f.1+f.2.2,f.2.1+1-f.2.2,1-f.2.2)
noncomputable def turnOf (L:List Fl) (f:Fl):List Fl:=Alj (L.filter (λ g=>!(decide (g=f) || decide (g=twin f)))++[tn1 f,tn2 f])
end M

set_option Elab.async false
set_option linter.all false
set_option maxRecDepth 100000
namespace M
open PySem PySem.Spec PyProof.Rows L2 Ma
end M

set_option Elab.async false
set_option linter.all false
set_option maxRecDepth 100000
namespace M
open PySem PySem.Spec PyProof.Rows L2 Ma
structure Form where
 hx:Int->Int->Int
 vy:Int->Int->Int
noncomputable def vs (t:Form):Nat->Int
 | 0=>0
 | n+1=>vs t n+t.vy n 0
noncomputable def hs (t:Form) (r:Int):Nat->Int
 | 0=>0
 | n+1=>hs t r n+t.hx r n
end M

set_option Elab.async false
set_option linter.all false
set_option maxRecDepth 100000
namespace M
open PySem PySem.Spec PyProof.Rows L2 Ma
end M

set_option Elab.async false
set_option linter.all false
set_option maxRecDepth 100000
namespace M
open PySem PySem.Spec PyProof.Rows L2 Ma
end M

set_option Elab.async false
set_option linter.all false
set_option maxRecDepth 100000
namespace M
open PySem PySem.Spec PyProof.Rows L2 Ma
noncomputable def turnAt (A:List Fl) (s:Sq):List Fl:=turnOf A (s.1-1,s.2-1,if Amp A s 0 then 0 else 1)
end M

set_option Elab.async false
set_option linter.all false
set_option maxRecDepth 100000
namespace M
open PySem PySem.Spec PyProof.Rows L2 Ma
noncomputable def mu (C:List Sq) (A B:List Fl):Nat:=(C.map λ s=>(ht A B s.1 s.2).natAbs).sum
structure Cl (cl:Int->Int):Prop where
 tow:∀ σ h,(σ=1\/σ=-1)->0<σ * cl h->0<σ * h/\cl (h-σ)=cl h-σ
 any:∀ h,cl h≠0->∃ σ,(σ=1\/σ=-1)/\0<σ * h/\∀ h',0<σ * h'->0<σ * cl h'
 le:∀ h,(cl h).natAbs<=h.natAbs
inductive Way (cl:Int->Int) (C:List Sq) (B:List Fl):List Fl->List Sq->List Fl->Prop
 | nil {A}:Way cl C B A [] A
 | snoc {A M A' s}:Way cl C B A M A'->s∈C->0<Agq A' s * cl (ht A' B s.1 s.2)->Way cl C B A (M++[s]) (turnAt A' s)
end M

set_option Elab.async false
set_option linter.all false
set_option maxRecDepth 100000
namespace M
open PySem PySem.Spec PyProof.Rows L2 Ma
end M

set_option Elab.async false
set_option linter.all false
set_option maxRecDepth 100000
namespace M
open PySem PySem.Spec PyProof.Rows L2 Ma
end M

set_option Elab.async false
set_option linter.all false
set_option maxRecDepth 100000
namespace M
open PySem PySem.Spec PyProof.Rows L2 Ma
end M

set_option Elab.async false
set_option linter.all false
set_option maxRecDepth 100000
namespace M
open PySem PySem.Spec PyProof.Rows L2 Ma
end M

set_option Elab.async false
set_option linter.all false
set_option maxRecDepth 100000
namespace M
open PySem PySem.Spec PyProof.Rows L2 Ma
noncomputable def code (s:Sq):Nat:=9 * s.1.toNat+s.2.toNat
noncomputable def nbr (s:Sq) (w:Int):Sq:=if w=0 then (s.1,s.2+1) else (s.1+1,s.2)
end M

set_option Elab.async false
set_option linter.all false
set_option maxRecDepth 100000
namespace M
open PySem PySem.Spec PyProof.Rows L2 Ma
noncomputable def cut (R:List Sq) (o:Sq):List Sq:=R.filter λ t=>!(decide (t=o))
noncomputable def pick (A:List Sq->List (List Fl)) (s:Sq) (R:List Sq) (w:Int):List (List Fl):=if nbr s w∈R then (A (cut R (nbr s w))).map λ L=>(s.1,s.2,w) :: L else []
noncomputable def Aoj:Nat->List Sq->List (List Fl)
 | 0,_=>[]
 | _+1,[]=>[[]]
 | n+1,s :: R=>pick (Aoj n) s R 0++pick (Aoj n) s R 1
end M

set_option Elab.async false
set_option linter.all false
set_option maxRecDepth 100000
namespace M
open PySem PySem.Spec PyProof.Rows L2 Ma
noncomputable def flt (A B:List Fl):Bool:=Afg (A.map fk) (B.map fk)
end M

set_option Elab.async false
set_option linter.all false
namespace M
open PySem PySem.Spec PyProof.Rows L2 Ma
noncomputable abbrev Hs:=List (Sq × Sq)
noncomputable def nbL (F:List Sq) (s:Sq):List Sq:=[(s.1-1,s.2),(s.1,s.2-1),(s.1,s.2+1),(s.1+1,s.2)].filter λ q=>decide (q∈F)
noncomputable def hget (h:Hs) (x:Sq):Option Sq:=(h.find? λ p=>decide (p.1=x)).map (·.2)
noncomputable def Aop (h:Hs) (x y:Sq):Hs:=if (h.any λ p=>decide (p.1=x))=true then h.map λ p=>if p.1=x then (p.1,y) else p else h++[(x,y)]
noncomputable def Amf (rec:Sq->Hs->List Sq->Option (Bool × Hs × List Sq)) (s:Sq):List Sq->Hs->List Sq->Option (Bool × Hs × List Sq)
 | [],h,t=>some (false,h,t)
 | x :: r,h,t=>if x∈t then Amf rec s r h t else match hget h x with
  | none=>some (true,Aop h x s,t++[x])
  | some y=>match rec y h (t++[x]) with
   | none=>none
   | some (true,h',t')=>some (true,Aop h' x s,t')
   | some (false,h',t')=>Amf rec s r h' t'
noncomputable def fp (F:List Sq):Nat->Sq->Hs->List Sq->Option (Bool × Hs × List Sq)
 | 0=>λ _ _ _=>none
 | n+1=>λ s h t=>Amf (fp F n) s (nbL F s) h t
structure Hok (F:List Sq) (h:Hs):Prop where
 nd:(h.map (·.1)).Nodup
 adj:∀ p∈h,p.1∈nbL F p.2
structure FT (F:List Sq) (s:Sq) (h:Hs) (t:List Sq) (h':Hs):Prop where
 ok:Hok F h'
 same:∀ x∈t,hget h' x=hget h x
 val:(h'.map (·.2)).Perm (s :: h.map (·.2))
structure FF (F:List Sq) (ns:List Sq) (h:Hs) (t:List Sq) (h':Hs) (t':List Sq):Prop where
 eq:h'=h
 all:∀ x∈ns,x∈t'
 cls:∀ x∈t',x∈t\/∃ y,hget h x=some y/\∀ z∈nbL F y,z∈t'
structure Tok (U t t':List Sq):Prop where
 nd:t'.Nodup
 sub:∀ x∈t',x∈U
 up:∀ x∈t,x∈t'
end M

set_option Elab.async false
set_option linter.all false
namespace M
open PySem PySem.Spec PyProof.Rows L2 Ma
noncomputable def half (F:List Sq) (p:Int):List Sq:=F.filter λ s=>decide ((s.1+s.2) % 2=p)
noncomputable def fo (x y:Sq):Fl:=((if Slt y x then y else x).1,(if Slt y x then y else x).2,if x.1=y.1 then 0 else 1)
instance (a b:Sq):Decidable (Slt a b):=by unfold Slt;exact inferInstance
theorem Anv (F:List Sq) (p:Int) (hp:p=0\/p=1):(half F (1-p)++half F p).Perm F:=by
 have e:half F (1-p)=F.filter λ s=>!(decide ((s.1+s.2) % 2=p)):=by
  unfold half
  refine List.filter_congr λ s _=>?_
  by_cases h:(s.1+s.2) % 2=p
  ·simp only [h,decide_true,Bool.not_true];exact decide_eq_false (by omega)
  ·simp only [h,decide_false,Bool.not_false];exact decide_eq_true (by omega)
 rw [e]
 exact List.perm_append_comm.trans (List.filter_append_perm _ F)
structure Wall (F W:List Sq):Prop where
 srt:W.Pairwise Slt
 ne:W≠[]
 sub:∀ s∈W,s∈F
 par:∃ p,∀ s∈W,(s.1+s.2) % 2=p
 few:∃ T:List Sq,(∀ s∈W,∀ z∈nbL F s,z∈T)/\T.length<W.length
end M

set_option Elab.async false
set_option linter.all false
set_option maxRecDepth 100000
namespace M
open PySem PySem.Spec PyProof.Rows L2 Ma
theorem Adh {c:Nat}:∀ {a b x y:List Nat},c∉a->c∉b->a++c :: x=b++c :: y->a=b/\x=y
 | [],[],_,_,_,_,h=>⟨rfl,(List.cons.inj h).2⟩
 | [],d :: b,_,_,_,hb,h=>by
  have:=(List.cons.inj h).1
  subst this
  exact absurd List.mem_cons_self hb
 | d :: a,[],_,_,ha,_,h=>by
  have:=(List.cons.inj h).1
  subst this
  exact absurd List.mem_cons_self ha
 | d :: a,e :: b,x,y,ha,hb,h=>by
  obtain⟨h1,h2⟩:=List.cons.inj h
  obtain⟨h3,h4⟩:=Adh (λ z=>ha (List.mem_cons_of_mem _ z)) (λ z=>hb (List.mem_cons_of_mem _ z)) h2
  exact⟨by rw [h1,h3],h4⟩
noncomputable def jl (c:Nat):List (List Nat)->List Nat
 | []=>[]
 | [x]=>x
 | x :: y :: r=>x++c :: jl c (y :: r)
theorem W6 {c:Nat}:∀ {A B:List (List Nat)},A≠[]->B≠[]->(∀ l∈A,c∉l)->(∀ l∈B,c∉l)->jl c A=jl c B->A=B
 | [],_,h,_,_,_,_=>absurd rfl h
 | _ :: _,[],_,h,_,_,_=>absurd rfl h
 | [a],[b],_,_,_,_,e=>by rw [show a=b from e]
 | [a],b :: b' :: r,_,_,ha,_,e=>by
  have e:a=b++c :: jl c (b' :: r):=e
  exact absurd (by rw [e];simp) (ha a (by simp))
 | a :: a' :: r,[b],_,_,_,hb,e=>by
  have e:a++c :: jl c (a' :: r)=b:=e
  exact absurd (by rw [<-e];simp) (hb b (by simp))
 | a :: a' :: r,b :: b' :: t,_,_,ha,hb,e=>by
  obtain⟨h1,h2⟩:=Adh (ha a (by simp)) (hb b (by simp)) (show a++c :: jl c (a' :: r)=b++c :: jl c (b' :: t) from e)
  rw [h1,W6 (by simp) (by simp) (λ l h=>ha l (List.mem_cons_of_mem _ h)) (λ l h=>hb l (List.mem_cons_of_mem _ h)) h2]
theorem Vv (a b:Str):(a++b).cps.toList=a.cps.toList++b.cps.toList:=by
 show (a.cps++b.cps).toList=_
 simp
theorem Zv {a b:Str}(h:a.cps.toList=b.cps.toList):a=b:=by
 cases a;cases b
 congr
 exact Array.toList_inj.mp h
theorem Ui (c:Nat):∀ ss:List Str,(Str.join ⟨#[c]⟩ ss).cps.toList=jl c (ss.map λ s=>s.cps.toList)
 | []=>rfl
 | [x]=>rfl
 | x :: y :: r=>by
  show (x++⟨#[c]⟩++Str.join ⟨#[c]⟩ (y :: r)).cps.toList=_
  rw [Vv,Vv,Ui c (y :: r)]
  simp [jl]
theorem Aab:∀ ss:List Str,(Str.join "" ss).cps.toList=(ss.map λ s=>s.cps.toList).flatten
 | []=>rfl
 | [x]=>by simp [Str.join]
 | x :: y :: r=>by
  show (x++""++Str.join "" (y :: r)).cps.toList=_
  rw [Vv,Vv,Aab (y :: r),show ("":Str)=⟨#[]⟩ by decide +kernel]
  simp
theorem Abv (x y:Str):Txt.split x y≠[]:=by
 unfold Txt.split
 split
 ·simp
 ·split
  ·simp
  ·rw [StrLaws.partsBetween_eq]
   obtain⟨p,q,e⟩:=StrLaws.partsFrom_ne x y.length 0 _
   rw [e];simp
theorem Abb {c:Nat}{ls:List (List Nat)}(h:ls≠[]) (hc:∀ l∈ls,c∉l):Txt.split ⟨(jl c ls).toArray⟩ ⟨#[c]⟩=ls.map λ l=>⟨l.toArray⟩:=by
 have h1:=congrArg (λ s:Str=>s.cps.toList) (StrLaws.join_split ⟨(jl c ls).toArray⟩ ⟨#[c]⟩)
 simp only [Ui] at h1
 have h2:=StrLaws.split_free ⟨(jl c ls).toArray⟩ c
 have h3:=Abv ⟨(jl c ls).toArray⟩ ⟨#[c]⟩
 generalize Txt.split ⟨(jl c ls).toArray⟩ ⟨#[c]⟩=S at h1 h2 h3 ⊢
 have e:S.map (λ s=>s.cps.toList)=ls:=W6 (by simpa using h3) h (λ l hl=>by
  obtain⟨s,hs,rfl⟩:=List.mem_map.mp hl
  exact h2 s hs) hc h1
 rw [<-e,List.map_map]
 conv=>lhs;rw [<-List.map_id S]
 exact List.map_congr_left λ s _=>rfl
noncomputable def Fv (g:Nat->Nat->Nat) (r:Nat):List Nat:=(List.range 8).map (g r)
noncomputable def lns (g:Nat->Nat->Nat):List (List Nat):=(List.range 8).map (Fv g)
noncomputable def txL (g:Nat->Nat->Nat):List Nat:=jl 10 (lns g)
noncomputable def tlK (g:Nat->Nat->Nat) (k:Nat):List Nat:=(if 0<k/\k % 8=0 then [10] else [])++[g (k / 8) (k % 8)]
noncomputable def tl (g:Nat->Nat->Nat) (ks:List Nat):List Nat:=ks.flatMap (tlK g)
noncomputable def sD (ps:List (Sq × Nat)):List (List Int × D):=ps.map λ p=>([p.1.1,p.1.2],D.str ⟨#[p.2]⟩)
noncomputable def look:List (Sq × Nat)->Sq->Option Nat
 | [],_=>none
 | p :: r,q=>if p.1=q then some p.2 else look r q
theorem Vd (q:Sq):∀ ps:List (Sq × Nat),Mh (sD ps) [q.1,q.2]=(look ps q).map λ c=>D.str ⟨#[c]⟩
 | []=>rfl
 | p :: r=>by
  show (if [p.1.1,p.1.2]=[q.1,q.2] then some (D.str ⟨#[p.2]⟩) else Mh (sD r) [q.1,q.2])=_
  rw [Vd q r,show look (p :: r) q=if p.1=q then some p.2 else look r q from rfl]
  by_cases h:p.1=q
  ·rw [if_pos h,if_pos (by rw [h])];rfl
  ·rw [if_neg h,if_neg λ z=>h (by
    have z1:=(List.cons.inj z).1
    have z2:=(List.cons.inj (List.cons.inj z).2).1
    exact Prod.ext z1 z2)]
theorem O2 {ps:List (Sq × Nat)}{q:Sq}{c:Nat}(h:q∉ps.map (·.1)):dput (sD ps) [q.1,q.2] (.str ⟨#[c]⟩)=sD (ps++[(q,c)]):=by
 unfold dput
 have:((sD ps).any λ kv=>decide (kv.1=[q.1,q.2]))=false:=by
  rw [List.any_eq_false]
  intro x hx
  obtain⟨p,hp,rfl⟩:=List.mem_map.mp hx
  simp only [decide_eq_true_eq]
  intro z
  refine h (List.mem_map.mpr ⟨p,hp,?_⟩)
  have z1:=(List.cons.inj z).1
  have z2:=(List.cons.inj (List.cons.inj z).2).1
  exact Prod.ext z1 z2
 rw [this]
 simp [sD]
theorem Ja {q:Sq}{c:Nat}:∀ {ps:List (Sq × Nat)},look ps q=some c->(q,c)∈ps
 | [],h=>by cases h
 | p :: r,h=>by
  unfold look at h
  split at h
  ·rename_i e
   cases h
   rw [<-e];exact List.mem_cons_self
  ·exact List.mem_cons_of_mem _ (Ja h)
theorem Od {q:Sq}{c:Nat}:∀ {ps:List (Sq × Nat)},(ps.map (·.1)).Nodup->(q,c)∈ps->look ps q=some c
 | [],_,h=>by cases h
 | p :: r,n,h=>by
  rw [List.map_cons,List.nodup_cons] at n
  unfold look
  rcases List.mem_cons.mp h with e|h
  ·rw [<-e,if_pos rfl]
  ·rw [if_neg λ z=>n.1 (List.mem_map.mpr ⟨_,h,z.symm⟩)]
   exact Od n.2 h
noncomputable def sg0 (w:Int):Nat:=if w=0 then 60 else 94
noncomputable def sg1 (w:Int):Nat:=if w=0 then 62 else 118
noncomputable def sgL (L:List Fl):List (Sq × Nat):=L.flatMap λ f=>[(pos2 f,sg0 f.2.2),(Gr f,sg1 f.2.2)]
theorem Adp (L:List Fl) (f:Fl):sgL (L++[f])=sgL L++[(pos2 f,sg0 f.2.2),(Gr f,sg1 f.2.2)]:=by
 unfold sgL;simp
theorem Hq (L:List Fl):(sgL L).map (·.1)=cover L:=by
 unfold sgL cover
 rw [List.map_flatMap];rfl
noncomputable def gr (L:List Fl) (r c:Nat):Nat:=(look (sgL L) ((r:Int),(c:Int))).getD 46
theorem Aai {L:List Fl}{q:Sq}{c:Nat}(h:(q,c)∈sgL L):∃ f∈L,(q=pos2 f/\c=sg0 f.2.2)\/(q=Gr f/\c=sg1 f.2.2):=by
 obtain⟨f,hf,h⟩:=List.mem_flatMap.mp h
 refine⟨f,hf,?_⟩
 simp only [List.mem_cons,List.not_mem_nil,or_false] at h
 rcases h with h|h
 ·exact .inl ⟨congrArg Prod.fst h,congrArg Prod.snd h⟩
 ·exact .inr ⟨congrArg Prod.fst h,congrArg Prod.snd h⟩
theorem Aez (L:List Fl) (r c:Nat):gr L r c≠10:=by
 unfold gr
 cases h:look (sgL L) ((r:Int),(c:Int)) with
 | none=>simp
 | some d =>
  obtain⟨f,_,h|h⟩:=Aai (Ja h)
  ·rw [h.2];unfold sg0;simp;split<;>decide
  ·rw [h.2];unfold sg1;simp;split<;>decide
noncomputable def sqs:List (Nat × Nat):=(List.range 8).flatMap λ r=>(List.range 8).map λ c=>(r,c)
noncomputable def up (p:Nat × Nat):Sq:=((p.1:Int),(p.2:Int))
theorem Agn {s:Sq}(h:OnB s):∃ p∈sqs,up p=s:=by
 unfold OnB at h
 refine⟨(s.1.toNat,s.2.toNat),?_,?_⟩
 ·unfold sqs
  refine List.mem_flatMap.mpr ⟨s.1.toNat,List.mem_range.mpr (by omega),List.mem_map.mpr ⟨s.2.toNat,List.mem_range.mpr (by omega),rfl⟩⟩
 ·unfold up
  exact Prod.ext (by simp;omega) (by simp;omega)
theorem Nu:sqs.Pairwise λ a b=>Slt (up a) (up b):=by decide +kernel
noncomputable def floorOf (g:Nat->Nat->Nat) (ps:List (Nat × Nat)):List Sq:=(ps.filter λ p=>!(decide (g p.1 p.2=46))).map up
noncomputable def fl1 (g:Nat->Nat->Nat) (p:Nat × Nat):Option Fl:=if g p.1 p.2=60 then some ((p.1:Int),(p.2:Int),0) else if g p.1 p.2=94 then some ((p.1:Int),(p.2:Int),1) else none
noncomputable def flagsOf (g:Nat->Nat->Nat) (ps:List (Nat × Nat)):List Fl:=ps.filterMap (fl1 g)
theorem Y5 {α:Type}{lt:α->α->Prop}(irr:∀ a,¬ lt a a) (tr:∀ a b,lt a b->lt b a->False) {A B:List α}(hA:A.Pairwise lt) (hB:B.Pairwise lt) (hm:∀ x,x∈A ↔ x∈B):A=B:=by
 have nA:A.Nodup:=hA.imp λ {a b} h z=>by subst z;exact irr _ h
 have nB:B.Nodup:=hB.imp λ {a b} h z=>by subst z;exact irr _ h
 exact List.Perm.eq_of_pairwise (λ a b _ _ h1 h2=>(tr a b h1 h2).elim) hA hB ((List.perm_ext_iff_of_nodup nA nB).mpr hm)
theorem Ab3 {a b:Sq}(h:Slt a b) (h':Slt b a):False:=Slt.irr (h.trans h')
theorem Wi {F:List Sq}{L:List Fl}(hF:IsFloor F) (h:Lay F L):flagsOf (gr L) sqs=L:=by
 have nc:((sgL L).map (·.1)).Nodup:=by rw [Hq];exact h.cov.nodup_iff.mpr (Di hF.ord)
 refine Y5 (lt:=λ a b=>Slt (pos2 a) (pos2 b)) (λ _=>Slt.irr) (λ _ _=>Ab3) ?_ h.ord λ f=>?_
 ·unfold flagsOf
  rw [List.pairwise_filterMap]
  refine Nu.imp λ {a b} hab x hx y hy=>?_
  have hp:∀ {p:Nat × Nat} {x:Fl},fl1 (gr L) p=some x->pos2 x=up p:=λ {p x} e=>by
   unfold fl1 at e
   split at e
   ·cases e;rfl
   ·split at e
    ·cases e;rfl
    ·cases e
  rw [hp hx,hp hy];exact hab
 ·unfold flagsOf
  rw [List.mem_filterMap]
  constructor
  ·rintro⟨p,hp,e⟩
   unfold fl1 gr at e
   cases el:look (sgL L) ((p.1:Int),(p.2:Int)) with
   | none=>rw [el] at e;simp at e
   | some c =>
    rw [el] at e
    obtain⟨f',hf',z⟩:=Aai (Ja el)
    have hw:=h.way f' hf'
    have z':((p.1:Int),(p.2:Int))=pos2 f'/\(c=60/\f'.2.2=0\/c=94/\f'.2.2=1)\/(c=62\/c=118):=by
     rcases z with ⟨z1,z2⟩|⟨z1,z2⟩
     ·refine .inl ⟨z1,?_⟩
      unfold sg0 at z2
      rcases hw with w|w
      ·exact .inl ⟨by rw [z2,w];rfl,w⟩
      ·exact .inr ⟨by rw [z2,w];rfl,w⟩
     ·right
      unfold sg1 at z2
      rcases hw with w|w
      ·exact .inl (by rw [z2,w];rfl)
      ·exact .inr (by rw [z2,w];rfl)
    rcases z' with ⟨z1,⟨rfl,w⟩|⟨rfl,w⟩⟩|rfl|rfl
    ·simp at e
     rw [<-e]
     have:f'=((p.1:Int),(p.2:Int),0):=by
      unfold pos2 at z1
      exact Prod.ext (congrArg Prod.fst z1).symm (Prod.ext (congrArg Prod.snd z1).symm w)
     rw [<-this];exact hf'
    ·simp at e
     rw [<-e]
     have:f'=((p.1:Int),(p.2:Int),1):=by
      unfold pos2 at z1
      exact Prod.ext (congrArg Prod.fst z1).symm (Prod.ext (congrArg Prod.snd z1).symm w)
     rw [<-this];exact hf'
    ·simp at e
    ·simp at e
  ·intro hf
   have hin:pos2 f∈F:=h.cov.mem_iff.mp (List.mem_flatMap.mpr ⟨f,hf,by unfold cells;simp⟩)
   obtain⟨p,hp,e⟩:=Agn (hF.on _ hin)
   refine⟨p,hp,?_⟩
   have hl:=Od nc (q:=pos2 f) (c:=sg0 f.2.2) (List.mem_flatMap.mpr ⟨f,hf,by simp⟩)
   rw [<-e] at hl
   have hg:gr L p.1 p.2=sg0 f.2.2:=by unfold gr;rw [show ((p.1:Int),(p.2:Int))=up p from rfl,hl];rfl
   have e1:(p.1:Int)=f.1:=congrArg Prod.fst e
   have e2:(p.2:Int)=f.2.1:=congrArg Prod.snd e
   unfold fl1
   rw [hg,e1,e2]
   unfold sg0
   rcases h.way f hf with w|w
   ·rw [w];simp;exact Prod.ext rfl (Prod.ext rfl w.symm)
   ·rw [w];simp;exact Prod.ext rfl (Prod.ext rfl w.symm)
end M

set_option Elab.async false
set_option linter.all false
set_option maxRecDepth 100000
namespace M
open PySem PySem.Spec PyProof.Rows L2 Ma
noncomputable def mOk (g:Nat->Nat->Nat) (p:Nat × Nat):Bool :=
 if g p.1 p.2=60 then decide (p.2+1<8) && decide (g p.1 (p.2+1)=62)
 else if g p.1 p.2=62 then decide (0<p.2) && decide (g p.1 (p.2-1)=60)
 else if g p.1 p.2=94 then decide (p.1+1<8) && decide (g (p.1+1) p.2=118)
 else if g p.1 p.2=118 then decide (0<p.1) && decide (g (p.1-1) p.2=94)
 else decide (g p.1 p.2=46)
theorem Df {p:Nat × Nat}:p∈sqs ↔ p.1<8/\p.2<8:=by
 unfold sqs
 rw [List.mem_flatMap]
 constructor
 ·rintro⟨r,hr,h⟩
  obtain⟨c,hc,rfl⟩:=List.mem_map.mp h
  exact⟨List.mem_range.mp hr,List.mem_range.mp hc⟩
 ·rintro⟨h1,h2⟩
  exact⟨p.1,List.mem_range.mpr h1,List.mem_map.mpr ⟨p.2,List.mem_range.mpr h2,rfl⟩⟩
theorem Ry {p q:Nat × Nat}(h:up p=up q):p=q:=by
 have h1:(p.1:Int)=q.1:=congrArg Prod.fst h
 have h2:(p.2:Int)=q.2:=congrArg Prod.snd h
 exact Prod.ext (by omega) (by omega)
theorem Nj {g:Nat->Nat->Nat}{s:Sq}:s∈floorOf g sqs ↔ ∃ p∈sqs,g p.1 p.2≠46/\up p=s:=by
 unfold floorOf
 rw [List.mem_map]
 constructor
 ·rintro⟨p,hp,e⟩
  obtain⟨h1,h2⟩:=List.mem_filter.mp hp
  exact⟨p,h1,by simpa using h2,e⟩
 ·rintro⟨p,hp,h,e⟩
  exact⟨p,List.mem_filter.mpr ⟨hp,by simpa using h⟩,e⟩
theorem Nb {g:Nat->Nat->Nat}{f:Fl}:f∈flagsOf g sqs ↔ ∃ p∈sqs,(g p.1 p.2=60/\f=((p.1:Int),(p.2:Int),0))\/(g p.1 p.2=94/\f=((p.1:Int),(p.2:Int),1)):=by
 unfold flagsOf
 rw [List.mem_filterMap]
 constructor
 ·rintro⟨p,hp,e⟩
  refine⟨p,hp,?_⟩
  unfold fl1 at e
  split at e
  ·rename_i h;cases e;exact .inl ⟨h,rfl⟩
  ·split at e
   ·rename_i h;cases e;exact .inr ⟨h,rfl⟩
   ·cases e
 ·rintro⟨p,hp,⟨h,rfl⟩|⟨h,rfl⟩⟩
  ·exact⟨p,hp,by unfold fl1;rw [if_pos h]⟩
  ·exact⟨p,hp,by unfold fl1;rw [if_neg (by omega),if_pos h]⟩
theorem Fy (g:Nat->Nat->Nat):IsFloor (floorOf g sqs):=by
 refine⟨?_,λ s hs=>?_⟩
 ·unfold floorOf
  rw [List.pairwise_map]
  exact Nu.filter _
 ·obtain⟨p,hp,_,rfl⟩:=Nj.mp hs
  have:=Df.mp hp
  unfold OnB up
  simp only
  omega
theorem U5 (g:Nat->Nat->Nat):(flagsOf g sqs).Pairwise λ a b=>Slt (pos2 a) (pos2 b):=by
 unfold flagsOf
 rw [List.pairwise_filterMap]
 refine Nu.imp λ {a b} hab x hx y hy=>?_
 have hp:∀ {p:Nat × Nat} {x:Fl},fl1 g p=some x->pos2 x=up p:=λ {p x} e=>by
  unfold fl1 at e
  split at e
  ·cases e;rfl
  ·split at e
   ·cases e;rfl
   ·cases e
 rw [hp hx,hp hy];exact hab
theorem Rj {g:Nat->Nat->Nat}:∀ f∈flagsOf g sqs,f.2.2=0\/f.2.2=1:=λ f hf=>by
 obtain⟨p,_,⟨_,rfl⟩|⟨_,rfl⟩⟩:=Nb.mp hf
 ·exact .inl rfl
 ·exact .inr rfl
theorem J8 {g:Nat->Nat->Nat}(h:∀ p∈sqs,mOk g p=true) {f:Fl}(hf:f∈flagsOf g sqs):∃ p∈sqs,∃ q∈sqs,up p=pos2 f/\up q=Gr f/\((f.2.2=0/\g p.1 p.2=60/\g q.1 q.2=62/\q=(p.1,p.2+1))\/(f.2.2=1/\g p.1 p.2=94/\g q.1 q.2=118/\q=(p.1+1,p.2))):=by
 obtain⟨p,hp,⟨e,rfl⟩|⟨e,rfl⟩⟩:=Nb.mp hf
 ·have:=h p hp
  unfold mOk at this
  rw [if_pos e,Bool.and_eq_true,decide_eq_true_eq,decide_eq_true_eq] at this
  exact⟨p,hp,(p.1,p.2+1),Df.mpr ⟨(Df.mp hp).1,this.1⟩,rfl,by unfold up Gr;simp,.inl ⟨rfl,e,this.2,rfl⟩⟩
 ·have:=h p hp
  unfold mOk at this
  rw [if_neg (by omega),if_neg (by omega),if_pos e,Bool.and_eq_true,decide_eq_true_eq,decide_eq_true_eq] at this
  exact⟨p,hp,(p.1+1,p.2),Df.mpr ⟨this.1,(Df.mp hp).2⟩,rfl,by unfold up Gr;simp,.inr ⟨rfl,e,this.2,rfl⟩⟩
theorem Xx {g:Nat->Nat->Nat}(h:∀ p∈sqs,mOk g p=true) {p:Nat × Nat}(hp:p∈sqs) (ne:g p.1 p.2≠46):∃ f∈flagsOf g sqs,(up p=pos2 f/\g p.1 p.2=sg0 f.2.2)\/(up p=Gr f/\g p.1 p.2=sg1 f.2.2):=by
 have hb:=Df.mp hp
 have:=h p hp
 unfold mOk at this
 by_cases h1:g p.1 p.2=60
 ·exact⟨_,Nb.mpr ⟨p,hp,.inl ⟨h1,rfl⟩⟩,.inl ⟨rfl,h1⟩⟩
 rw [if_neg h1] at this
 by_cases h2:g p.1 p.2=62
 ·rw [if_pos h2,Bool.and_eq_true,decide_eq_true_eq,decide_eq_true_eq] at this
  refine⟨_,Nb.mpr ⟨(p.1,p.2-1),Df.mpr ⟨hb.1,by simp only;omega⟩,.inl ⟨this.2,rfl⟩⟩,.inr ⟨?_,h2⟩⟩
  unfold up Gr
  rw [if_pos rfl]
  exact Prod.ext rfl (by simp only;omega)
 rw [if_neg h2] at this
 by_cases h3:g p.1 p.2=94
 ·exact⟨_,Nb.mpr ⟨p,hp,.inr ⟨h3,rfl⟩⟩,.inl ⟨rfl,h3⟩⟩
 rw [if_neg h3] at this
 by_cases h4:g p.1 p.2=118
 ·rw [if_pos h4,Bool.and_eq_true,decide_eq_true_eq,decide_eq_true_eq] at this
  refine⟨_,Nb.mpr ⟨(p.1-1,p.2),Df.mpr ⟨by simp only;omega,hb.2⟩,.inr ⟨this.2,rfl⟩⟩,.inr ⟨?_,h4⟩⟩
  unfold up Gr
  rw [if_neg (by show ¬ (1:Int)=0;decide)]
  exact Prod.ext (by simp only;omega) rfl
 rw [if_neg h4,decide_eq_true_eq] at this
 exact absurd this ne
theorem Ni {g:Nat->Nat->Nat}(h:∀ p∈sqs,mOk g p=true):Lay (floorOf g sqs) (flagsOf g sqs):=by
 have nd:(cover (flagsOf g sqs)).Nodup:=by
  unfold cover
  unfold List.Nodup
  rw [List.pairwise_flatMap]
  refine⟨λ f hf=>?_,(U5 g).imp_of_mem λ {a b} ha hb hab=>?_⟩
  ·obtain⟨p,hp,q,hq,e1,e2,z⟩:=J8 h hf
   unfold cells
   rw [<-e1,<-e2]
   have:up p≠up q:=λ w=>by
    have:=Ry w
    rcases z with ⟨_,_,_,rfl⟩|⟨_,_,_,rfl⟩
    ·have:=congrArg Prod.snd this;simp only at this;omega
    ·have:=congrArg Prod.fst this;simp only at this;omega
   simp [this]
  ·obtain⟨p,hp,q,hq,e1,e2,z⟩:=J8 h ha
   obtain⟨p',hp',q',hq',e1',e2',z'⟩:=J8 h hb
   rw [<-e1,<-e1'] at hab
   intro x hx y hy
   unfold cells at hx hy
   rw [<-e1,<-e2] at hx
   rw [<-e1',<-e2'] at hy
   simp only [List.mem_cons,List.not_mem_nil,or_false] at hx hy
   have npp:p≠p':=λ w=>by rw [w] at hab;exact Slt.irr hab
   have key:∀ {a b:Nat × Nat},(a≠b)->up a≠up b:=λ n w=>n (Ry w)
   rcases hx with rfl|rfl<;>rcases hy with rfl|rfl
   ·exact key npp
   ·refine key λ w=>?_
    subst w
    rcases z with ⟨_,a1,_,_⟩|⟨_,a1,_,_⟩<;>rcases z' with ⟨_,_,b1,_⟩|⟨_,_,b1,_⟩<;>omega
   ·refine key λ w=>?_
    subst w
    rcases z with ⟨_,_,a1,_⟩|⟨_,_,a1,_⟩<;>rcases z' with ⟨_,b1,_,_⟩|⟨_,b1,_,_⟩<;>omega
   ·refine key λ w=>npp ?_
    subst w
    rcases z with ⟨_,_,a1,a2⟩|⟨_,_,a1,a2⟩<;>rcases z' with ⟨_,_,b1,b2⟩|⟨_,_,b1,b2⟩
    ·rw [a2] at b2
     have:=congrArg Prod.fst b2;have:=congrArg Prod.snd b2
     simp only at *
     exact Prod.ext (by omega) (by omega)
    ·omega
    ·omega
    ·rw [a2] at b2
     have:=congrArg Prod.fst b2;have:=congrArg Prod.snd b2
     simp only at *
     exact Prod.ext (by omega) (by omega)
 refine⟨U5 g,Rj,(List.perm_ext_iff_of_nodup nd (Di (Fy g).ord)).mpr λ s=>⟨λ hs=>?_,λ hs=>?_⟩⟩
 ·obtain⟨f,hf,hs⟩:=List.mem_flatMap.mp hs
  obtain⟨p,hp,q,hq,e1,e2,z⟩:=J8 h hf
  unfold cells at hs
  rw [<-e1,<-e2] at hs
  simp only [List.mem_cons,List.not_mem_nil,or_false] at hs
  rcases hs with rfl|rfl
  ·exact Nj.mpr ⟨p,hp,by rcases z with z|z<;>omega,rfl⟩
  ·exact Nj.mpr ⟨q,hq,by rcases z with z|z<;>omega,rfl⟩
 ·obtain⟨p,hp,ne,rfl⟩:=Nj.mp hs
  obtain⟨f,hf,z|z⟩:=Xx h hp ne
  ·exact List.mem_flatMap.mpr ⟨f,hf,by unfold cells;rw [z.1];simp⟩
  ·exact List.mem_flatMap.mpr ⟨f,hf,by unfold cells;rw [z.1];simp⟩
theorem Ael {F:List Sq}{L:List Fl}(hF:IsFloor F) (h:Lay F L):((sgL L).map (·.1)).Nodup:=by rw [Hq];exact h.cov.nodup_iff.mpr (Di hF.ord)
theorem Aa8 {F:List Sq}{L:List Fl}(hF:IsFloor F) (h:Lay F L) {p:Nat × Nat}{c:Nat}(hm:(up p,c)∈sgL L):gr L p.1 p.2=c:=by
 unfold gr
 rw [show ((p.1:Int),(p.2:Int))=up p from rfl,Od (Ael hF h) hm];rfl
theorem W5 {g:Nat->Nat->Nat}(h:∀ p∈sqs,mOk g p=true):∀ p∈sqs,gr (flagsOf g sqs) p.1 p.2=g p.1 p.2:=λ p hp=>by
 have hL:=Ni h
 by_cases ne:g p.1 p.2=46
 ·unfold gr
  cases e:look (sgL (flagsOf g sqs)) ((p.1:Int),(p.2:Int)) with
  | none=>exact ne.symm
  | some c =>
   have:=List.mem_map_of_mem (f:=(·.1)) (Ja e)
   rw [Hq] at this
   obtain⟨q,hq,n,w⟩:=Nj.mp (hL.cov.mem_iff.mp this)
   rw [Ry (show up q=up p from w)] at n
   exact absurd ne n
 ·obtain⟨f,hf,z|z⟩:=Xx h hp ne
  ·exact Aa8 (Fy g) hL (List.mem_flatMap.mpr ⟨f,hf,by rw [z.1,z.2];simp⟩)
  ·exact Aa8 (Fy g) hL (List.mem_flatMap.mpr ⟨f,hf,by rw [z.1,z.2];simp⟩)
theorem Ti {g:Nat->Nat->Nat}(hL:Lay (floorOf g sqs) (flagsOf g sqs)) (hg:∀ p∈sqs,gr (flagsOf g sqs) p.1 p.2=g p.1 p.2):∀ p∈sqs,mOk g p=true:=λ p hp=>by
 have hF:=Fy g
 have e:=hg p hp
 unfold gr at e
 unfold mOk
 cases el:look (sgL (flagsOf g sqs)) ((p.1:Int),(p.2:Int)) with
 | none =>
  rw [el] at e
  have e:46=g p.1 p.2:=e
  rw [<-e];rfl
 | some c =>
  rw [el] at e
  have e:c=g p.1 p.2:=e
  obtain⟨f,hf,z⟩:=Aai (Ja el)
  have inF:∀ s∈cells f,∃ q∈sqs,up q=s:=λ s hs=>by
   obtain⟨q,hq,_,w⟩:=Nj.mp (hL.cov.mem_iff.mp (List.mem_flatMap.mpr ⟨f,hf,hs⟩))
   exact⟨q,hq,w⟩
  obtain⟨q,hq,eq⟩:=inF (pos2 f) (by unfold cells;simp)
  obtain⟨r,hr,er⟩:=inF (Gr f) (by unfold cells;simp)
  have gq:g q.1 q.2=sg0 f.2.2:=by
   rw [<-hg q hq]
   exact Aa8 hF hL (List.mem_flatMap.mpr ⟨f,hf,by rw [eq];simp⟩)
  have grr:g r.1 r.2=sg1 f.2.2:=by
   rw [<-hg r hr]
   exact Aa8 hF hL (List.mem_flatMap.mpr ⟨f,hf,by rw [er];simp⟩)
  have q1:(q.1:Int)=f.1:=congrArg Prod.fst eq
  have q2:(q.2:Int)=f.2.1:=congrArg Prod.snd eq
  have rb:=Df.mp hr
  rcases Rj f hf with w|w
  ·rw [w] at gq grr
   have er':up r=(f.1,f.2.1+1):=by rw [er];unfold Gr;rw [if_pos w]
   have r1:(r.1:Int)=f.1:=congrArg Prod.fst er'
   have r2:(r.2:Int)=f.2.1+1:=congrArg Prod.snd er'
   have er2:r=(q.1,q.2+1):=Prod.ext (by simp only;omega) (by simp only;omega)
   subst er2
   have gq:g q.1 q.2=60:=gq
   rcases z with ⟨z1,z2⟩|⟨z1,z2⟩
   ·have:p=q:=Ry (show up p=up q from z1.trans eq.symm)
    subst this
    rw [if_pos gq]
    simp only [Bool.and_eq_true,decide_eq_true_eq]
    exact⟨rb.2,grr⟩
   ·have:p=(q.1,q.2+1):=Ry (show up p=up (q.1,q.2+1) from z1.trans er.symm)
    subst this
    have g1:g q.1 (q.2+1)=62:=grr
    simp only
    rw [if_neg (by omega),if_pos g1]
    simp only [Bool.and_eq_true,decide_eq_true_eq]
    exact⟨by omega,gq⟩
  ·rw [w] at gq grr
   have er':up r=(f.1+1,f.2.1):=by rw [er];unfold Gr;rw [if_neg (by omega)]
   have r1:(r.1:Int)=f.1+1:=congrArg Prod.fst er'
   have r2:(r.2:Int)=f.2.1:=congrArg Prod.snd er'
   have er2:r=(q.1+1,q.2):=Prod.ext (by simp only;omega) (by simp only;omega)
   subst er2
   have g0:g q.1 q.2=94:=gq
   have g1:g (q.1+1) q.2=118:=grr
   rcases z with ⟨z1,z2⟩|⟨z1,z2⟩
   ·have:p=q:=Ry (show up p=up q from z1.trans eq.symm)
    subst this
    rw [if_neg (by omega),if_neg (by omega),if_pos g0]
    simp only [Bool.and_eq_true,decide_eq_true_eq]
    exact⟨rb.1,g1⟩
   ·have:p=(q.1+1,q.2):=Ry (show up p=up (q.1+1,q.2) from z1.trans er.symm)
    subst this
    simp only
    rw [if_neg (by omega),if_neg (by omega),if_neg (by omega),if_pos g1]
    simp only [Bool.and_eq_true,decide_eq_true_eq]
    exact⟨by omega,g0⟩
end M

set_option Elab.async false
set_option linter.all false
set_option maxRecDepth 100000
namespace M
open PySem PySem.Spec PyProof.Rows L2
noncomputable def M8:EX:=Ey (Aam (eCh fLe Adj (kE (.int 0)) (e2 fIx (vE 0) (kE (.int 0))) (kE (.int 8))) (eCh fLe Adj (kE (.int 0)) (e2 fIx (vE 0) (kE (.int 1))) (kE (.int 8))))
noncomputable def Dc:List D->R D:=den 1 M8
noncomputable def Ep:EX:=xIf (Ot (Bh (Bj 1 Dc (Ac (vF 1) (Bf))))) (Xg) (Ga)
noncomputable def Er:EX:=xIf (Ot (Bh (e2 fLt (vE 2) (vE 3)))) (Xg) (Ga)
noncomputable def Iw:EX:=Bg (Mg (iD (vF 0)) (gN 1) (Ep)) (Mg (iZ (vF 0) (eSl (vE 0) (Eh (kE (.int 1))) (Ei))) (gT 2 3) (Er))
noncomputable def Bm:List D->R D:=den 4 Iw
noncomputable def Gv:EX:=Bg (Es 1 (e2 fIx (vE 0) (kE (.int 0)))) (Bg (Es 2 (e2 fIx (vE 0) (kE (.int 1)))) (Bg (xIf (Bh (e2 fEq (e2 fIx (vE 0) (kE (.int 2))) (kE (.int 0)))) (Ey (K6 (Ac (G6 (Ac (vF 1) (Ac (vF 2) (Bf)))) (Ac (G6 (Ac (vF 1) (Ac (e2 Cg (vE 2) (kE (.int 1))) (Bf)))) (Bf))))) (Ga)) (Ey (K6 (Ac (G6 (Ac (vF 1) (Ac (vF 2) (Bf)))) (Ac (G6 (Ac (e2 Cg (vE 1) (kE (.int 1))) (Ac (vF 2) (Bf)))) (Bf)))))))
noncomputable def Al:List D->R D:=den 3 Gv
noncomputable def Hg:EX:=Ey (e1 Ae8 (Fd [1,2] (gT 1 2) (iZ (vF 0) (eSl (vE 0) (Eh (kE (.int 1))) (Ei))) (Jy) (e2 fLt (eSl (vE 1) (Ei) (Eh (kE (.int 2)))) (eSl (vE 2) (Ei) (Eh (kE (.int 2)))))))
noncomputable def Bd:List D->R D:=den 3 Hg
noncomputable def Ej:EX:=Akm 1 (Bj 1 Al (Ac (vF 2) (Bf)))
noncomputable def Ko:EX:=Bg (Vr 1 (K6 (Bf))) (Bg (Mg (iD (vF 0)) (gN 2) (Ej)) (Ey (e1 Zw (vE 1))))
noncomputable def Ck:List D->R D:=den 3 Ko
noncomputable def Lh:EX:=Bg (xDo (Bj 1 Bm (Ac (vF 0) (Bf)))) (Bg (xIf (Ot (Bh (e1 Ae8 (Fd [2] (gN 2) (iD (vF 1)) (Jy) (e2 fIn (e2 fIx (vE 2) (kE (.int 2))) (G6 (Ac (kE (.int 0)) (Ac (kE (.int 1)) (Bf))))))))) (Ey (kE (.bl false))) (Ga)) (Ey (Aam (Bj 1 Bd (Ac (vF 1) (Bf))) (e2 fEq (Bj 1 Ck (Ac (vF 1) (Bf))) (vE 0)))))
noncomputable def Av:List D->R D:=den 3 Lh
noncomputable def Hj:EX:=Jx 1 (vE 3) (vF 4)
noncomputable def Gb:EX:=Mg (iZs (Bj 1 Al (Ac (vF 2) (Bf))) (e2 fIx (vE 2) (kE (.int 2)))) (gT 3 4) (Hj)
noncomputable def Gh:EX:=Aao 5 (N6 "" (Fd [7] (gN 7) (iR1 (kE (.int 8))) (Jy) (Agy (vE 1) (G6 (Ac (vF 6) (Ac (vF 7) (Bf)))) (kE (.str ".")))))
noncomputable def Il:EX:=Bg (Vr 1 (kE (.dic []))) (Bg (Mg (iD (vF 0)) (gN 2) (Gb)) (Bg (Vr 5 (K6 (Bf))) (Bg (Mg (iR1 (kE (.int 8))) (gN 6) (Gh)) (Ey (N6 "\n" (vE 5))))))
noncomputable def Ce:List D->R D:=den 8 Il
noncomputable def Dd:EX:=Jx 3 (G6 (Ac (vF 4) (Ac (vF 5) (Bf)))) (vF 6)
noncomputable def Bv:EX:=Mg (iEn (vF 2)) (gT 5 6) (Dd)
noncomputable def Ax:EX:=Bg (calm (Es 1 (W7 (vE 0) "\n"))) (Bg (xIf (calm (bOr (Bh (e2 fNe (e1 Hf (vE 1)) (kE (.int 8)))) (Bh (e1 Agz (Fd [2] (gN 2) (iD (vF 1)) (Jy) (e2 fNe (e1 Hf (vE 2)) (kE (.int 8)))))))) (Vc 5) (Ga)) (Bg (calm (Vr 3 (kE (.dic [])))) (Bg (calm (Mg (iEn (vF 1)) (gT 4 2) (Bv))) (calm (Aem 3 (Ey (vF 3)))))))
noncomputable def Am:List D->R D:=den 7 Ax
noncomputable def Bq:EX:=xIf (Bh (e2 fEq (vE 3) (Abs 0 (vE 4)))) (Aao 1 (G6 (Ac (e2 fIx (vE 2) (kE (.int 0))) (Ac (e2 fIx (vE 2) (kE (.int 1))) (Ac (vF 4) (Bf)))))) (Ga)
noncomputable def Dm:EX:=Mg (iT (G6 (Ac (kE (.int 0)) (Ac (kE (.int 1)) (Bf))))) (gN 4) (Bq)
noncomputable def Ed:EX:=Bg (Vr 1 (K6 (Bf))) (Bg (Mg (iDi (vF 0)) (gT 2 3) (Dm)) (Aem 1 (Ey (vF 1))))
noncomputable def Bl:List D->R D:=den 5 Ed
noncomputable def Km:EX:=Bg (Es 1 (Bj 1 Am (calm (Ac (vF 0) (Bf))))) (Bg (calm (Es 4 (Fd [2,3] (gT 2 3) (iDi (vF 1)) (Bh (e2 fNe (vE 3) (kE (.str ".")))) (vF 2)))) (Bg (calm (Es 5 (Bj 1 Bl (Ac (vF 1) (Bf))))) (Bg (xIf (calm (bOr (Ot (Bh (Bj 2 Av (Ac (vF 4) (Ac (vF 5) (Bf)))))) (Bh (e2 fNe (Bj 1 Ce (Ac (vF 5) (Bf))) (vE 0))))) (Vc 5) (Ga)) (calm (Ey (G6 (Ac (vF 4) (Ac (vF 5) (Bf)))))))))
noncomputable def Cu:List D->R D:=den 6 Km
noncomputable def Im:EX:=Bg (xIf (Bh (e2 fLt (vE 1) (e1 Hf (vE 0)))) (Ey (e2 fIx (vE 0) (vE 1))) (Ga)) (Ey (kE (.int 0)))
noncomputable def Af:List D->R D:=den 2 Im
noncomputable def Bx:EX:=Bg (Es 9 (e2 Cg (vE 4) (e2 T8 (vE 8) (vE 3)))) (Bg (Es 10 (e2 Cg (vE 5) (e2 Kd (vE 8) (vE 3)))) (Bg (Es 6 (e2 Kd (e2 Ags (vE 6) (kE (.int 48271))) (kE (.int 2147483647)))) (Bg (Vr 11 (K6 (Bf))) (Bg (xIf (Agu (Bh (e2 Gp (G6 (Ac (vF 9) (Ac (vF 10) (Bf)))) (vE 7))) (Bh (e2 fNe (e2 Kd (e2 T8 (vE 6) (kE (.int 8))) (kE (.int 8))) (kE (.int 5))))) (Bg (xIf (Agu (Bh (e2 fLt (e2 Cg (vE 10) (kE (.int 1))) (e2 Cg (vE 5) (vE 3)))) (Bh (e2 Gp (G6 (Ac (vF 9) (Ac (e2 Cg (vE 10) (kE (.int 1))) (Bf)))) (vE 7)))) (Aao 11 (kE (.int 0))) (Ga)) (xIf (Bh (e2 fLt (e2 Cg (vE 9) (kE (.int 1))) (e2 Cg (vE 4) (vE 2)))) (Aao 11 (kE (.int 1))) (Ga))) (Ga)) (xIf (Bh (e2 fGt (e1 Hf (vE 11)) (kE (.int 0)))) (Bg (Es 12 (e2 fIx (vE 11) (e2 Kd (e2 T8 (vE 6) (kE (.int 64))) (e1 Hf (vE 11))))) (Bg (Jx 7 (G6 (Ac (vF 9) (Ac (vF 10) (Bf)))) (e2 fIx (K6 (Ac (kE (.str "<")) (Ac (kE (.str "^")) (Bf)))) (vE 12))) (Jx 7 (G6 (Ac (e2 Cg (vE 9) (vE 12)) (Ac (e2 Zk (e2 Cg (vE 10) (kE (.int 1))) (vE 12)) (Bf)))) (e2 fIx (K6 (Ac (kE (.str ">")) (Ac (kE (.str "v")) (Bf)))) (vE 12))))) (Ga))))))
noncomputable def K1:EX:=Bg (Es 1 (Bj 2 Af (Ac (vF 0) (Ac (kE (.int 0)) (Bf))))) (Bg (Es 2 (e2 Cg (kE (.int 1)) (e2 Kd (vE 1) (kE (.int 8))))) (Bg (Es 3 (e2 Cg (kE (.int 1)) (e2 Kd (e2 T8 (vE 1) (kE (.int 8))) (kE (.int 8))))) (Bg (Es 4 (e2 Kd (e2 T8 (vE 1) (kE (.int 64))) (e2 Zk (kE (.int 9)) (vE 2)))) (Bg (Es 5 (e2 Kd (e2 T8 (vE 1) (kE (.int 512))) (e2 Zk (kE (.int 9)) (vE 3)))) (Bg (Es 6 (e2 Cg (kE (.int 1)) (e2 Kd (Bj 2 Af (Ac (vF 0) (Ac (kE (.int 1)) (Bf)))) (kE (.int 2147483646))))) (Bg (Vr 7 (kE (.dic []))) (Bg (Mg (iR1 (e2 Ags (vE 2) (vE 3))) (gN 8) (Bx)) (Aem 7 (Ey (vF 7))))))))))
noncomputable def Bu:List D->R D:=den 13 K1
noncomputable def Ef:EX:=xIf (Bh (e2 Ae5 (G6 (Ac (vF 2) (Ac (vF 4) (Bf)))) (vE 0))) (Es 3 (e2 Cg (vE 3) (e2 Acv (vE 0) (G6 (Ac (vF 2) (Ac (vF 4) (Bf))))))) (Es 3 (e2 Cg (vE 3) (kE (.str "."))))
noncomputable def Ec:EX:=Bg (Es 3 (kE (.str ""))) (Bg (Mg (iR1 (kE (.int 8))) (gN 4) (Ef)) (Aao 1 (vF 3)))
noncomputable def Fx:EX:=Bg (Vr 1 (K6 (Bf))) (Bg (Mg (iR1 (kE (.int 8))) (gN 2) (Ec)) (Aem 1 (Ey (vF 1))))
noncomputable def Bs:List D->R D:=den 5 Fx
noncomputable def Eu:EX:=Bg (Es 5 (e2 fIx (vE 0) (vE 2))) (Bg (Es 6 (e2 fIx (kE (.str ".<>^vV-x")) (e2 Kd (vE 4) (kE (.int 8))))) (Bg (xIf (Bh (e2 fEq (vE 1) (kE (.int 1)))) (Es 5 (e2 Cg (e2 Cg (Aeo (vE 5) (Ei) (Eh (vE 3))) (vE 6)) (Aeo (vE 5) (Eh (e2 Cg (vE 3) (kE (.int 1)))) (Ei)))) (Ga)) (Bg (xIf (Bh (e2 fEq (vE 1) (kE (.int 2)))) (Es 5 (e2 Cg (Aeo (vE 5) (Ei) (Eh (vE 3))) (Aeo (vE 5) (Eh (e2 Cg (vE 3) (kE (.int 1)))) (Ei)))) (Ga)) (Bg (xIf (Bh (e2 fEq (vE 1) (kE (.int 3)))) (Es 5 (e2 Cg (e2 Cg (Aeo (vE 5) (Ei) (Eh (vE 3))) (vE 6)) (Aeo (vE 5) (Eh (vE 3)) (Ei)))) (Ga)) (Bg (Es 0 (e2 Cg (e2 Cg (eSl (vE 0) (Ei) (Eh (vE 2))) (K6 (Ac (vF 5) (Bf)))) (eSl (vE 0) (Eh (e2 Cg (vE 2) (kE (.int 1)))) (Ei)))) (Bg (xIf (Bh (e2 fEq (vE 1) (kE (.int 4)))) (Ey (e2 Cg (eSl (vE 0) (Ei) (Eh (vE 2))) (eSl (vE 0) (Eh (e2 Cg (vE 2) (kE (.int 1)))) (Ei)))) (Ga)) (Bg (xIf (Bh (e2 fEq (vE 1) (kE (.int 5)))) (Ey (e2 Cg (eSl (vE 0) (Ei) (Eh (e2 Cg (vE 2) (kE (.int 1))))) (eSl (vE 0) (Eh (vE 2)) (Ei)))) (Ga)) (Bg (xIf (Bh (e2 fEq (vE 1) (kE (.int 6)))) (Ey (e2 Cg (vE 0) (K6 (Ac (kE (.str "")) (Bf))))) (Ga)) (Ey (vF 0))))))))))
noncomputable def Bw:List D->R D:=den 7 Eu
noncomputable def Bb:EX:=xIf (Bh (e2 fEq (vE 3) (e2 fIx (kE (.str "<>^v")) (vE 4)))) (Bg (Es 5 (e2 fIx (K6 (Ac (G6 (Ac (vF 1) (Ac (e2 Cg (vE 2) (kE (.int 1))) (Bf)))) (Ac (G6 (Ac (vF 1) (Ac (e2 Zk (vE 2) (kE (.int 1))) (Bf)))) (Ac (G6 (Ac (e2 Cg (vE 1) (kE (.int 1))) (Ac (vF 2) (Bf)))) (Ac (G6 (Ac (e2 Zk (vE 1) (kE (.int 1))) (Ac (vF 2) (Bf)))) (Bf)))))) (vE 4))) (Bg (xIf (Ot (Agu (Bh (eCh fLe Adj (kE (.int 0)) (e2 fIx (vE 5) (kE (.int 0))) (kE (.int 8)))) (Bh (eCh fLe Adj (kE (.int 0)) (e2 fIx (vE 5) (kE (.int 1))) (kE (.int 8)))))) (Ey (kE (.bl false))) (Ga)) (Ey (e2 fEq (e2 fIx (e2 fIx (vE 0) (e2 fIx (vE 5) (kE (.int 0)))) (e2 fIx (vE 5) (kE (.int 1)))) (e2 fIx (kE (.str "><v^")) (vE 4)))))) (Ga)
noncomputable def G8:EX:=Bg (Es 3 (e2 fIx (e2 fIx (vE 0) (vE 1)) (vE 2))) (Bg (Mg (iR1 (kE (.int 4))) (gN 4) (Bb)) (Ey (e2 fEq (vE 3) (kE (.str ".")))))
noncomputable def Cj:List D->R D:=den 6 G8
noncomputable def Dk:EX:=Bg (xIf (Ot (Bh (Bj 3 Cj (Ac (vF 0) (Ac (vF 3) (Ac (vF 4) (Bf))))))) (Ey (kE .non)) (Ga)) (xIf (Bh (e2 fNe (e2 fIx (e2 fIx (vE 0) (vE 3)) (vE 4)) (kE (.str ".")))) (Aao 2 (G6 (Ac (vF 3) (Ac (vF 4) (Bf))))) (Ga))
noncomputable def Cm:EX:=Mg (iR1 (kE (.int 8))) (gN 4) (Dk)
noncomputable def Dg:EX:=Bg (xIf (bOr (Bh (e2 fNe (e1 Hf (vE 0)) (kE (.int 8)))) (Bh (e2 fGt (e1 Hf (Fd [1] (gN 1) (iD (vF 0)) (Bh (e2 fNe (e1 Hf (vE 1)) (kE (.int 8)))) (vF 1))) (kE (.int 0))))) (Ey (kE .non)) (Ga)) (Bg (Vr 2 (K6 (Bf))) (Bg (Mg (iR1 (kE (.int 8))) (gN 3) (Cm)) (Aem 2 (Ey (vF 2)))))
noncomputable def Ba:List D->R D:=den 5 Dg
noncomputable def El:Nat->Option D
 | 5=>some (.int 0)
 | _=>none
theorem Mu {c:Nat}{d:D}(h:El c=some d):c=5/\d=.int 0:=by
 unfold El at h
 split at h<;>first|(cases h;simp)|cases h
noncomputable def V7:EX:=Afe (Ey (Bj 1 Cu (calm (Ac (vF 0) (Bf))))) El
noncomputable def Bo:List D->R D:=den 2 V7
noncomputable def K5:EX:=Bg (Es 7 (e2 fIx (e2 fIx (vE 1) (e2 fIx (vE 6) (kE (.int 0)))) (e2 fIx (vE 6) (kE (.int 1))))) (xIf (bOr (Bh (e2 fEq (vE 7) (kE (.str "<")))) (Bh (e2 fEq (vE 7) (kE (.str "^"))))) (Aao 5 (G6 (Ac (e2 fIx (vE 6) (kE (.int 0))) (Ac (e2 fIx (vE 6) (kE (.int 1))) (Ac (e1 Amh (e2 fEq (vE 7) (kE (.str "^")))) (Bf)))))) (Ga))
noncomputable def Yu:EX:=Bg (Es 1 (Bj 1 Bs (Ac (Bj 1 Bu (Ac (vF 0) (Bf))) (Bf)))) (Bg (Es 2 (e2 Kd (Bj 2 Af (Ac (vF 0) (Ac (kE (.int 3)) (Bf)))) (kE (.int 64)))) (Bg (Es 1 (Bj 5 Bw (Ac (vF 1) (Ac (e2 Kd (Bj 2 Af (Ac (vF 0) (Ac (kE (.int 2)) (Bf)))) (kE (.int 7))) (Ac (e2 T8 (vE 2) (kE (.int 8))) (Ac (e2 Kd (vE 2) (kE (.int 8))) (Ac (Bj 2 Af (Ac (vF 0) (Ac (kE (.int 4)) (Bf)))) (Bf)))))))) (Bg (Es 3 (Bj 1 Ba (Ac (vF 1) (Bf)))) (Bg (Es 4 (Bj 1 Bo (Ac (N6 "\n" (vE 1)) (Bf)))) (Bg (xIf (Bh (e1 Aj3 (vE 3))) (Ey (Aam (e1 (Z8 .int) (vE 4)) (e2 fEq (vE 4) (kE (.int 0))))) (Ga)) (Bg (xIf (bOr (Ot (Bh (e1 (Z8 .tuple) (vE 4)))) (bOr (Bh (e2 fNe (e1 Hf (vE 4)) (kE (.int 2)))) (Ot (Bh (e1 (Z8 .list) (e2 fIx (vE 4) (kE (.int 0)))))))) (Ey (kE (.bl false))) (Ga)) (Bg (Vr 5 (K6 (Bf))) (Bg (Mg (iD (vF 3)) (gN 6) (K5)) (Ey (Aam (e2 fEq (e2 fIx (vE 4) (kE (.int 0))) (vE 3)) (Aam (e1 (Z8 .list) (e2 fIx (vE 4) (kE (.int 1)))) (e2 fEq (e2 fIx (vE 4) (kE (.int 1))) (vE 5)))))))))))))
noncomputable def Lx:List D->R D:=den 8 Yu
end M

set_option Elab.async false
set_option linter.all false
set_option maxHeartbeats 1000000
namespace M
open PySem PySem.Spec PyProof.Rows L2 Ma
theorem Ao {m n:EX}{E E':Ev}{r:R Out}(h:m E=.ok (.nx E')) (h2:n E'=r):Bg m n E=r:=by
 unfold Bg;rw [h];exact h2
theorem Gj {m n:EX}{E:Ev}{d:D}(h:m E=.ok (.rt d)):Bg m n E=.ok (.rt d):=by
 unfold Bg;rw [h];rfl
theorem Abi {m n:EX}{E:Ev}(E':Ev) (P:R Out->Prop) (h:m E=.ok (.nx E')) (h2:P (n E')):P (Bg m n E):=by
 unfold Bg;rw [h];exact h2
theorem Ak7 {F:List Sq}{L:List Fl}(h:Lay F L) (hl:F.length<64):L.length<32:=by
 have:(cover L).length=2 * L.length:=by
  unfold cover;rw [List.length_flatMap];simp only [cells,List.length_cons,List.length_nil,List.map_const',List.sum_replicate_nat];omega
 have:=h.cov.length_eq
 omega
theorem Cz {i:Nat}{m:EV}{E:Ev}{d:D}(h:m E=.ok d):Es i m E=.ok (.nx (E.set i (.fz d))):=by
 unfold Es;rw [h];rfl
theorem Qk {t:Ev->R Bool}{a:EX}{E:Ev}(h:t E=.ok false):xIf t a Ga E=.ok (.nx E):=by
 unfold xIf;rw [h];rfl
theorem Arz {s t:Ev->R Bool}{E:Ev}(h:s E=.ok false) (h':t E=.ok false):bOr s t E=.ok false:=by
 unfold bOr;rw [h];exact h'
theorem Adt {t:Ev->R Bool}{E:Ev}(h:t E=.ok true):Ot t E=.ok false:=by
 unfold Ot;rw [h];rfl
theorem Dl {m:EV}{E:Ev}{b:Bool}(h:m E=.ok (.bl b)):Bh m E=.ok b:=by
 unfold Bh;rw [h];rfl
@[simp high] theorem Aqs (d:D) (r:Ev):vE 0 (.fz d :: r)=.ok d:=rfl
@[simp high] theorem Arj (d:D) (r:Ev):vE 0 (.ow d :: r)=.ok d:=rfl
@[simp high] theorem Aso (d:D) (r:Ev):vF 0 (.fz d :: r)=.ok d:=rfl
@[simp high] theorem Asx (x0:Sl) (d:D) (r:Ev):vE 1 (x0 :: .fz d :: r)=.ok d:=rfl
@[simp high] theorem Aq5 (x0:Sl) (d:D) (r:Ev):vE 1 (x0 :: .ow d :: r)=.ok d:=rfl
@[simp high] theorem Aqu (x0:Sl) (d:D) (r:Ev):vF 1 (x0 :: .fz d :: r)=.ok d:=rfl
@[simp high] theorem As1 (x0 x1:Sl) (d:D) (r:Ev):vE 2 (x0 :: x1 :: .fz d :: r)=.ok d:=rfl
@[simp high] theorem As3 (x0 x1:Sl) (d:D) (r:Ev):vE 2 (x0 :: x1 :: .ow d :: r)=.ok d:=rfl
@[simp high] theorem Ar9 (x0 x1:Sl) (d:D) (r:Ev):vF 2 (x0 :: x1 :: .fz d :: r)=.ok d:=rfl
@[simp high] theorem Asn (x0 x1 x2:Sl) (d:D) (r:Ev):vE 3 (x0 :: x1 :: x2 :: .fz d :: r)=.ok d:=rfl
@[simp high] theorem Aq7 (x0 x1 x2:Sl) (d:D) (r:Ev):vE 3 (x0 :: x1 :: x2 :: .ow d :: r)=.ok d:=rfl
@[simp high] theorem Arl (x0 x1 x2:Sl) (d:D) (r:Ev):vF 3 (x0 :: x1 :: x2 :: .fz d :: r)=.ok d:=rfl
@[simp high] theorem Arc (x0 x1 x2 x3:Sl) (d:D) (r:Ev):vE 4 (x0 :: x1 :: x2 :: x3 :: .fz d :: r)=.ok d:=rfl
@[simp high] theorem Aq2 (x0 x1 x2 x3:Sl) (d:D) (r:Ev):vE 4 (x0 :: x1 :: x2 :: x3 :: .ow d :: r)=.ok d:=rfl
@[simp high] theorem Asf (x0 x1 x2 x3:Sl) (d:D) (r:Ev):vF 4 (x0 :: x1 :: x2 :: x3 :: .fz d :: r)=.ok d:=rfl
@[simp high] theorem Arn (x0 x1 x2 x3 x4:Sl) (d:D) (r:Ev):vE 5 (x0 :: x1 :: x2 :: x3 :: x4 :: .fz d :: r)=.ok d:=rfl
@[simp high] theorem Asi (x0 x1 x2 x3 x4:Sl) (d:D) (r:Ev):vE 5 (x0 :: x1 :: x2 :: x3 :: x4 :: .ow d :: r)=.ok d:=rfl
@[simp high] theorem Aqc (x0 x1 x2 x3 x4:Sl) (d:D) (r:Ev):vF 5 (x0 :: x1 :: x2 :: x3 :: x4 :: .fz d :: r)=.ok d:=rfl
@[simp high] theorem Aqm (x0 x1 x2 x3 x4 x5:Sl) (d:D) (r:Ev):vE 6 (x0 :: x1 :: x2 :: x3 :: x4 :: x5 :: .fz d :: r)=.ok d:=rfl
@[simp high] theorem Apy (x0 x1 x2 x3 x4 x5:Sl) (d:D) (r:Ev):vE 6 (x0 :: x1 :: x2 :: x3 :: x4 :: x5 :: .ow d :: r)=.ok d:=rfl
@[simp high] theorem Aqt (x0 x1 x2 x3 x4 x5:Sl) (d:D) (r:Ev):vF 6 (x0 :: x1 :: x2 :: x3 :: x4 :: x5 :: .fz d :: r)=.ok d:=rfl
@[simp high] theorem Asa (x0 x1 x2 x3 x4 x5 x6:Sl) (d:D) (r:Ev):vE 7 (x0 :: x1 :: x2 :: x3 :: x4 :: x5 :: x6 :: .fz d :: r)=.ok d:=rfl
@[simp high] theorem Aqn (x0 x1 x2 x3 x4 x5 x6:Sl) (d:D) (r:Ev):vE 7 (x0 :: x1 :: x2 :: x3 :: x4 :: x5 :: x6 :: .ow d :: r)=.ok d:=rfl
@[simp high] theorem Aps (x0 x1 x2 x3 x4 x5 x6:Sl) (d:D) (r:Ev):vF 7 (x0 :: x1 :: x2 :: x3 :: x4 :: x5 :: x6 :: .fz d :: r)=.ok d:=rfl
@[simp high] theorem Asy (x0 x1 x2 x3 x4 x5 x6 x7:Sl) (d:D) (r:Ev):vE 8 (x0 :: x1 :: x2 :: x3 :: x4 :: x5 :: x6 :: x7 :: .fz d :: r)=.ok d:=rfl
@[simp high] theorem Ars (x0 x1 x2 x3 x4 x5 x6 x7:Sl) (d:D) (r:Ev):vE 8 (x0 :: x1 :: x2 :: x3 :: x4 :: x5 :: x6 :: x7 :: .ow d :: r)=.ok d:=rfl
@[simp high] theorem Aq3 (x0 x1 x2 x3 x4 x5 x6 x7:Sl) (d:D) (r:Ev):vF 8 (x0 :: x1 :: x2 :: x3 :: x4 :: x5 :: x6 :: x7 :: .fz d :: r)=.ok d:=rfl
@[simp high] theorem Arx (x0 x1 x2 x3 x4 x5 x6 x7 x8:Sl) (d:D) (r:Ev):vE 9 (x0 :: x1 :: x2 :: x3 :: x4 :: x5 :: x6 :: x7 :: x8 :: .fz d :: r)=.ok d:=rfl
@[simp high] theorem Ap2 (x0 x1 x2 x3 x4 x5 x6 x7 x8:Sl) (d:D) (r:Ev):vE 9 (x0 :: x1 :: x2 :: x3 :: x4 :: x5 :: x6 :: x7 :: x8 :: .ow d :: r)=.ok d:=rfl
@[simp high] theorem Aqx (x0 x1 x2 x3 x4 x5 x6 x7 x8:Sl) (d:D) (r:Ev):vF 9 (x0 :: x1 :: x2 :: x3 :: x4 :: x5 :: x6 :: x7 :: x8 :: .fz d :: r)=.ok d:=rfl
@[simp high] theorem Am7 (x0 x1 x2 x3 x4 x5 x6 x7 x8 x9:Sl) (d:D) (r:Ev):vE 10 (x0 :: x1 :: x2 :: x3 :: x4 :: x5 :: x6 :: x7 :: x8 :: x9 :: .fz d :: r)=.ok d:=rfl
@[simp high] theorem An1 (x0 x1 x2 x3 x4 x5 x6 x7 x8 x9:Sl) (d:D) (r:Ev):vE 10 (x0 :: x1 :: x2 :: x3 :: x4 :: x5 :: x6 :: x7 :: x8 :: x9 :: .ow d :: r)=.ok d:=rfl
@[simp high] theorem Anj (x0 x1 x2 x3 x4 x5 x6 x7 x8 x9:Sl) (d:D) (r:Ev):vF 10 (x0 :: x1 :: x2 :: x3 :: x4 :: x5 :: x6 :: x7 :: x8 :: x9 :: .fz d :: r)=.ok d:=rfl
@[simp high] theorem Am6 (x0 x1 x2 x3 x4 x5 x6 x7 x8 x9 x10:Sl) (d:D) (r:Ev):vE 11 (x0 :: x1 :: x2 :: x3 :: x4 :: x5 :: x6 :: x7 :: x8 :: x9 :: x10 :: .fz d :: r)=.ok d:=rfl
@[simp high] theorem Aol (x0 x1 x2 x3 x4 x5 x6 x7 x8 x9 x10:Sl) (d:D) (r:Ev):vE 11 (x0 :: x1 :: x2 :: x3 :: x4 :: x5 :: x6 :: x7 :: x8 :: x9 :: x10 :: .ow d :: r)=.ok d:=rfl
@[simp high] theorem Aov (x0 x1 x2 x3 x4 x5 x6 x7 x8 x9 x10:Sl) (d:D) (r:Ev):vF 11 (x0 :: x1 :: x2 :: x3 :: x4 :: x5 :: x6 :: x7 :: x8 :: x9 :: x10 :: .fz d :: r)=.ok d:=rfl
@[simp high] theorem Aof (x0 x1 x2 x3 x4 x5 x6 x7 x8 x9 x10 x11:Sl) (d:D) (r:Ev):vE 12 (x0 :: x1 :: x2 :: x3 :: x4 :: x5 :: x6 :: x7 :: x8 :: x9 :: x10 :: x11 :: .fz d :: r)=.ok d:=rfl
@[simp high] theorem Ane (x0 x1 x2 x3 x4 x5 x6 x7 x8 x9 x10 x11:Sl) (d:D) (r:Ev):vE 12 (x0 :: x1 :: x2 :: x3 :: x4 :: x5 :: x6 :: x7 :: x8 :: x9 :: x10 :: x11 :: .ow d :: r)=.ok d:=rfl
@[simp high] theorem Apc (x0 x1 x2 x3 x4 x5 x6 x7 x8 x9 x10 x11:Sl) (d:D) (r:Ev):vF 12 (x0 :: x1 :: x2 :: x3 :: x4 :: x5 :: x6 :: x7 :: x8 :: x9 :: x10 :: x11 :: .fz d :: r)=.ok d:=rfl
@[simp high] theorem Ano (x0 x1 x2 x3 x4 x5 x6 x7 x8 x9 x10 x11 x12:Sl) (d:D) (r:Ev):vE 13 (x0 :: x1 :: x2 :: x3 :: x4 :: x5 :: x6 :: x7 :: x8 :: x9 :: x10 :: x11 :: x12 :: .fz d :: r)=.ok d:=rfl
@[simp high] theorem An9 (x0 x1 x2 x3 x4 x5 x6 x7 x8 x9 x10 x11 x12:Sl) (d:D) (r:Ev):vE 13 (x0 :: x1 :: x2 :: x3 :: x4 :: x5 :: x6 :: x7 :: x8 :: x9 :: x10 :: x11 :: x12 :: .ow d :: r)=.ok d:=rfl
@[simp high] theorem An7 (x0 x1 x2 x3 x4 x5 x6 x7 x8 x9 x10 x11 x12:Sl) (d:D) (r:Ev):vF 13 (x0 :: x1 :: x2 :: x3 :: x4 :: x5 :: x6 :: x7 :: x8 :: x9 :: x10 :: x11 :: x12 :: .fz d :: r)=.ok d:=rfl
theorem V2 (s:Sq):Dc [dS s]=.ok (.bl (decide (OnB s))):=by
 unfold Dc M8
 simp
 by_cases h1:0<=s.1<;>by_cases h2:s.1<8<;>by_cases h3:0<=s.2<;>simp [h1,h2,h3,OnB]
theorem Oo {F:List Sq}(h:IsFloor F):Bm [dL F]=.ok .non:=by
 unfold Bm Iw
 obtain⟨E1,e1,t1,rfl⟩:=Lp (set:=gN 1) (b:=Ep) dS (λ (_:Unit) _=>()) (λ _ E=>∃ t,E=[.fz (dL F),t,.un,.un]) F () [.fz (dL F),.un,.un,.un] (by
  rintro _ E ⟨t,rfl⟩ x hx
  refine⟨_,rfl,?_⟩
  simp [Ep,V2,h.on x hx]) ⟨_,rfl⟩
 obtain⟨E2,e2,t2,t3,rfl⟩:=Lp (set:=gT 2 3) (b:=Er) (λ p:Sq × Sq=>D.tup [dS p.1,dS p.2]) (λ (_:Unit) _=>()) (λ _ E=>∃ t t',E=[.fz (dL F),t1,t,t']) (F.zip (F.drop 1)) () [.fz (dL F),t1,.un,.un] (by
  rintro _ E ⟨t,t',rfl⟩ x hx
  refine⟨_,rfl,?_⟩
  simp [Er,Aco h.ord x hx]) ⟨_,_,rfl⟩
 simp [e1]
 rw [<-List.drop_one,<-List.map_drop,Acg,e2]
 rfl
theorem P0 (ns:List Int) (k:Nat):Af [.scr ns,.int k]=.ok (.int (ns.getD k 0)):=by
 unfold Af Im
 simp
 by_cases h:k<ns.length
 ·have:fIx (.scr ns) (.int k)=some (.int ns[k]):=by
   show (atI ns (k:Int)).map D.int=_
   rw [Fb (x:=ns[k]) (by simp [h])];rfl
  simp [h,this]
 ·simp [h]
theorem Gx (f:Fl):Al [dF f]=.ok (dL (cells f)):=by
 unfold Al Gv
 by_cases h:f.2.2=0
 ·simp [h,cells,pos2,Gr]
 ·simp [h,cells,pos2,Gr]
noncomputable def Acp (L:List Fl):Bool:=(L.zip (L.drop 1)).all λ p=>decide (Slt (pos2 p.1) (pos2 p.2))
theorem Ms (L:List Fl) (hl:L.length<=1000):Bd [dFL L]=.ok (.bl (Acp L)):=by
 unfold Bd Hg
 simp [Aan]
 rw [<-List.drop_one,<-List.map_drop,Acd,if_pos (by omega),Ih (λ p:Fl × Fl=>D.tup [dF p.1,dF p.2]) (λ p=>D.bl (decide (Slt (pos2 p.1) (pos2 p.2)))) _ (λ p hp=>⟨_,rfl,by simp [clr];rfl⟩)]
 simp only [R.ok_bind]
 rw [Adr (λ p:Fl × Fl=>decide (Slt (pos2 p.1) (pos2 p.2)))]
 rfl
theorem Tp (L:List Fl) (hl:(cover L).length<67):Ck [dFL L]=.ok (dL (G9 (cover L))):=by
 unfold Ck Ko
 obtain⟨E1,e1,t2,rfl⟩:=Dv (set:=gN 2) (b:=Ej) dF (λ (pre:List Fl) E=>∃ t2,E=[.fz (dFL L),.ow (dL (cover pre)),t2]) L (by
  rintro pre f post epre E ⟨t2,rfl⟩
  refine⟨_,rfl,?_⟩
  have lc:(cover pre).length<67:=by
   rw [epre] at hl
   unfold cover at hl ⊢
   simp at hl ⊢;omega
  refine Ek (E:=[.fz (dFL L),.ow (dL (cover (pre++[f]))),.fz (dF f)]) ⟨_,rfl⟩ ?_
  have e2:cover (pre++[f])=cover pre++cells f:=by unfold cover;simp
  have l2:(cells f).length=2:=rfl
  have l3:(cover pre).length+2<1000000:=by omega
  rw [e2]
  simp [Ej,Gx,l2,l3]) [.fz (dFL L),.ow (dL []),.un] ⟨_,rfl⟩
 simp
 show ended (forL (gN 2) Ej (List.map dF L) [.fz (dFL L),.ow (dL []),.un] >>= _)=_
 rw [e1]
 simp
 rw [Zq _ hl]
 rfl
theorem Ks {F:List Sq}(hF:IsFloor F) (L:List Fl) (hl:(cover L).length<67):Av [dL F,dFL L]=.ok (.bl ((L.all λ f=>decide (f.2.2=0\/f.2.2=1)) && (Acp L && decide (G9 (cover L)=F)))):=by
 have ll:L.length<67:=by
  have:(cover L).length=2 * L.length:=by
   unfold cover;rw [List.length_flatMap];simp only [cells,List.length_cons,List.length_nil,List.map_const',List.sum_replicate_nat];omega
  omega
 generalize hA:(L.all λ f=>decide (f.2.2=0\/f.2.2=1))=A
 unfold Av Lh
 simp [Aan,Oo hF]
 rw [if_pos (by omega),Ih dF (λ f:Fl=>D.bl (decide (f.2.2=0\/f.2.2=1))) L (λ f hf=>⟨_,rfl,by
  have hin:fIn (.int f.2.2) (.tup [.int 0,.int 1])=some (.bl (decide (f.2.2=0\/f.2.2=1))):=by
   show some (D.bl _)=_
   congr 2
   simp [eqb]
   by_cases h0:f.2.2=0<;>by_cases h1:f.2.2=1<;>simp [h0,h1]<;>omega
  simp [clr,hin]⟩)]
 simp only [R.ok_bind]
 rw [Adr (λ f:Fl=>decide (f.2.2=0\/f.2.2=1)),hA]
 cases A with
 | true=>simp [Ms L (by omega),Tp L hl]
 | false=>simp
theorem Uy {L:List Fl}(h:L.Pairwise λ a b=>Slt (pos2 a) (pos2 b)):Acp L=true:=by
 unfold Acp
 rw [List.all_eq_true]
 intro p hp
 obtain⟨i,hi,e⟩:=List.mem_iff_getElem.mp hp
 rw [List.pairwise_iff_getElem] at h
 simp at hi
 have:=h i (i+1) (by omega) (by omega) (by omega)
 rw [<-e]
 simp only [List.getElem_zip,List.getElem_drop,Nat.add_comm 1 i]
 simpa using this
theorem Lay.len {F:List Sq}{L:List Fl}(h:Lay F L):(cover L).length=F.length:=h.cov.length_eq
theorem Aeb {F:List Sq}(hF:IsFloor F) {L:List Fl}(h:Lay F L) (hl:F.length<67):Av [dL F,dFL L]=.ok (.bl true):=by
 rw [Ks hF L (by rw [h.len];exact hl),Uy h.ord,Ub hF.ord h.cov]
 have:(L.all λ f=>decide (f.2.2=0\/f.2.2=1))=true:=by
  rw [List.all_eq_true];intro f hf;simpa using h.way f hf
 rw [this]
 simp
theorem Ht {set:D->Ev->Option Ev}{b:EX}{d:D}{ds:List D}{E E1 E2:Ev}(h1:set d E=some E1) (h2:b E1=.ok (.nx E2)):forL set b (d :: ds) E=forL set b ds E2:=by
 show (match set d E with
  | none=>_
  | some E1=>_)=_
 rw [h1]
 show (b E1 >>= _)=_
 rw [h2]
 rfl
theorem s60:("<":Str)=⟨#[60]⟩:=by decide +kernel
theorem s62:(">":Str)=⟨#[62]⟩:=by decide +kernel
theorem s94:("^":Str)=⟨#[94]⟩:=by decide +kernel
theorem Apd:("v":Str)=⟨#[118]⟩:=by decide +kernel
theorem s46:(".":Str)=⟨#[46]⟩:=by decide +kernel
theorem s10:("\n":Str)=⟨#[10]⟩:=by decide +kernel
theorem Q5 {i:Nat}{mk mv:EV}{E:Ev}{kvs:List (List Int × D)}{q:Sq}{v:D}(h:E[i]?=some (.ow (.dic kvs))) (hk:mk E=.ok (dS q)) (hv:mv E=.ok v) (hl:kvs.length<1000000):Jx i mk mv E=.ok (.nx (E.set i (.ow (.dic (dput kvs [q.1,q.2] v))))):=by
 rw [Afy,h]
 simp only [hk,hv,R.ok_bind]
 rw [show keyOf (dS q)=some [q.1,q.2] from rfl]
 exact if_pos hl
theorem Uw (ps:List (Sq × Nat)):(sD ps).length=ps.length:=List.length_map ..
theorem Sy (L:List Fl):(sgL L).length=2 * L.length:=by
 unfold sgL
 induction L with
 | nil=>rfl
 | cons f r ih=>rw [List.flatMap_cons,List.length_append,ih];simp;omega
theorem Aa4 {L pre post:List Fl}{f:Fl}(n:(cover L).Nodup) (e:L=pre++f :: post):pos2 f∉(sgL pre).map (·.1)/\Gr f∉(sgL pre++[(pos2 f,sg0 f.2.2)]).map (·.1):=by
 rw [List.map_append,Hq]
 rw [e] at n
 unfold cover at n
 rw [List.flatMap_append,List.flatMap_cons] at n
 have n2:=List.nodup_append.mp n
 have n3:=n2.2.2
 have n4:(cells f).Nodup:=(List.nodup_append.mp n2.2.1).1
 refine⟨λ z=>n3 _ z _ (List.mem_append_left _ (by unfold cells;simp)) rfl,λ z=>?_⟩
 rcases List.mem_append.mp z with z|z
 ·exact n3 _ z _ (List.mem_append_left _ (by unfold cells;simp)) rfl
 ·unfold cells at n4
  rw [List.nodup_cons] at n4
  have z:Gr f∈[pos2 f]:=z
  exact n4.1 (by rw [List.mem_singleton.mp z];simp)
theorem Agb {w:Int}(h:w=0\/w=1):signs w=some [⟨#[sg0 w]⟩,⟨#[sg1 w]⟩]:=by
 rcases h with rfl|rfl
 ·show some _=_;rw [s60,s62];rfl
 ·show some _=_;rw [s94,Apd];rfl
theorem Rq {L pre post:List Fl}{f:Fl}{t3 t4 x5 x6 x7:Sl}(n:(cover L).Nodup) (lL:L.length<=1000) (hw:f.2.2=0\/f.2.2=1) (e:L=pre++f :: post) :
  Gb [.fz (dFL L),.ow (.dic (sD (sgL pre))),.fz (dF f),t3,t4,x5,x6,x7]=.ok (.nx [.fz (dFL L),.ow (.dic (sD (sgL (pre++[f])))),.fz (dF f),.fz (dS (Gr f)),.fz (.str ⟨#[sg1 f.2.2]⟩),x5,x6,x7]):=by
 obtain⟨f1,f2⟩:=Aa4 n e
 have lp:pre.length<1000:=by rw [e] at lL;simp at lL;omega
 have iz:iZs (Bj 1 Al (Ac (vF 2) (Bf))) (e2 fIx (vE 2) (kE (.int 2))) [.fz (dFL L),.ow (.dic (sD (sgL pre))),.fz (dF f),t3,t4,x5,x6,x7]=.ok [.tup [dS (pos2 f),.str ⟨#[sg0 f.2.2]⟩],.tup [dS (Gr f),.str ⟨#[sg1 f.2.2]⟩]]:=by
  have h1:Bj 1 Al (Ac (vF 2) (Bf)) [.fz (dFL L),.ow (.dic (sD (sgL pre))),.fz (dF f),t3,t4,x5,x6,x7]=.ok (dL (cells f)):=by simp [Gx]
  have h2:e2 fIx (vE 2) (kE (.int 2)) [.fz (dFL L),.ow (.dic (sD (sgL pre))),.fz (dF f),t3,t4,x5,x6,x7]=.ok (.int f.2.2):=rfl
  unfold iZs
  rw [h1,h2]
  simp only [R.ok_bind]
  show (match signs f.2.2 with
   | some zs=>R.ok (List.zipWith (λ a b=>D.tup [a,.str b]) ((cells f).map dS) zs)
   | none=>.no)=_
  rw [Agb hw]
  rfl
 unfold Gb
 rw [Jr,iz]
 simp only [R.ok_bind]
 rw [Ht (set:=gT 3 4) (E1:=[.fz (dFL L),.ow (.dic (sD (sgL pre))),.fz (dF f),.fz (dS (pos2 f)),.fz (.str ⟨#[sg0 f.2.2]⟩),x5,x6,x7]) (E2:=[.fz (dFL L),.ow (.dic (sD (sgL pre++[(pos2 f,sg0 f.2.2)]))),.fz (dF f),.fz (dS (pos2 f)),.fz (.str ⟨#[sg0 f.2.2]⟩),x5,x6,x7]) rfl
  (by unfold Hj;rw [Q5 (kvs:=sD (sgL pre)) (q:=pos2 f) (v:=.str ⟨#[sg0 f.2.2]⟩) rfl rfl rfl (by rw [Uw,Sy];omega),O2 f1];rfl)]
 rw [Ht (set:=gT 3 4) (E1:=[.fz (dFL L),.ow (.dic (sD (sgL pre++[(pos2 f,sg0 f.2.2)]))),.fz (dF f),.fz (dS (Gr f)),.fz (.str ⟨#[sg1 f.2.2]⟩),x5,x6,x7]) (E2:=[.fz (dFL L),.ow (.dic (sD (sgL (pre++[f])))),.fz (dF f),.fz (dS (Gr f)),.fz (.str ⟨#[sg1 f.2.2]⟩),x5,x6,x7]) rfl
  (by unfold Hj;rw [Q5 (kvs:=sD (sgL pre++[(pos2 f,sg0 f.2.2)])) (q:=Gr f) (v:=.str ⟨#[sg1 f.2.2]⟩) rfl rfl rfl (by rw [Uw,List.length_append,Sy];simp;omega),O2 f2,Adp,List.append_assoc];rfl)]
 rfl
theorem Aiv (L:List Fl) (r c:Nat):(Mh (sD (sgL L)) [(r:Int),(c:Int)]).getD (.str ".")=.str ⟨#[gr L r c]⟩:=by
 rw [show ([(r:Int),(c:Int)]:List Int)=[((r:Int),(c:Int)).1,((r:Int),(c:Int)).2] from rfl,Vd,s46]
 unfold gr
 cases look (sgL L) ((r:Int),(c:Int))<;>rfl
theorem Rb:∀ zs:List Str,Tc (zs.map D.str)=some zs
 | []=>rfl
 | z :: zs=>by
  show (Tc (zs.map D.str)).map _=_
  rw [Rb zs];rfl
theorem Xw {sep:Str}{zs:List Str}(h1:sep.length<=16) (h2:(zs.map (·.length)).sum+zs.length<=1048576):Acx (.str sep) (.lst (zs.map D.str))=some (.str (Str.join sep zs)):=by
 show ((Tc (zs.map D.str)).bind λ ys=>if sep.length<=16/\(ys.map (·.length)).sum+ys.length<=1048576 then some (D.str (Txt.join sep ys)) else none)=_
 rw [Rb]
 show (if _ then _ else _)=_
 rw [if_pos ⟨h1,h2⟩]
 unfold Txt.join
 rw [StrLaws.glued_eq_join]
theorem Z7 (n:Nat):(rng 0 (n:Int)).map D.int=(List.range n).map λ (i:Nat)=>D.int (i:Int):=by
 unfold rng
 rw [List.map_map]
 simp [Function.comp_def]
noncomputable def Xu (L:List Fl) (r:Nat):Str:=⟨(Fv (gr L) r).toArray⟩
theorem Aa2 (L:List Fl) (r:Nat):Str.join "" ((List.range 8).map λ c=>(⟨#[gr L r c]⟩:Str))=Xu L r:=by
 refine Zv ?_
 rw [Aab]
 simp [Xu,Fv,List.range,List.range.loop]
theorem T4 {L:List Fl}{r:Nat}{zs:List Str}{x0 x2 x3 x4 x7:Sl}(h7:Aan [7] [x0,.ow (.dic (sD (sgL L))),x2,x3,x4,.ow (.lst (zs.map D.str)),.fz (.int (r:Int)),x7]=true) (hz:zs.length<=8) :
  Gh [x0,.ow (.dic (sD (sgL L))),x2,x3,x4,.ow (.lst (zs.map D.str)),.fz (.int (r:Int)),x7]=.ok (.nx [x0,.ow (.dic (sD (sgL L))),x2,x3,x4,.ow (.lst ((zs++[Xu L r]).map D.str)),.fz (.int (r:Int)),x7]):=by
 have ec:=Ih (set:=gN 7) (me:=Agy (vE 1) (G6 (Ac (vF 6) (Ac (vF 7) (Bf)))) (kE (.str "."))) (E:=clr [7] [x0,.ow (.dic (sD (sgL L))),x2,x3,x4,.ow (.lst (zs.map D.str)),.fz (.int (r:Int)),x7]) (λ (c:Nat)=>D.int (c:Int)) (λ c=>D.str ⟨#[gr L r c]⟩) (List.range 8) (λ c _=>⟨_,rfl,by
  have:=Aiv L r c
  show (R.ok ((Mh (sD (sgL L)) [(r:Int),(c:Int)]).getD (.str ".")))=_
  rw [this]⟩)
 have em:Fd [7] (gN 7) (iR1 (kE (.int 8))) Jy (Agy (vE 1) (G6 (Ac (vF 6) (Ac (vF 7) (Bf)))) (kE (.str "."))) [x0,.ow (.dic (sD (sgL L))),x2,x3,x4,.ow (.lst (zs.map D.str)),.fz (.int (r:Int)),x7]=.ok (.lst (((List.range 8).map λ c=>(⟨#[gr L r c]⟩:Str)).map D.str)):=by
  unfold Fd
  rw [if_pos h7]
  have hi:iR1 (kE (.int 8)) [x0,.ow (.dic (sD (sgL L))),x2,x3,x4,.ow (.lst (zs.map D.str)),.fz (.int (r:Int)),x7]=.ok ((List.range 8).map λ (c:Nat)=>D.int (c:Int)):=by
   rw [<-Z7];simp
  rw [hi]
  simp only [R.ok_bind]
  rw [if_pos (by rw [List.length_map,List.length_range];decide),ec]
  simp only [R.ok_bind]
  rw [List.map_map];rfl
 have ej:=Xw (sep:="") (zs:=(List.range 8).map λ c=>(⟨#[gr L r c]⟩:Str)) (by decide +kernel) (by show ([1,1,1,1,1,1,1,1]:List Nat).sum+8<=1048576;decide)
 rw [Aa2] at ej
 have eF:N6 "" (Fd [7] (gN 7) (iR1 (kE (.int 8))) Jy (Agy (vE 1) (G6 (Ac (vF 6) (Ac (vF 7) (Bf)))) (kE (.str ".")))) [x0,.ow (.dic (sD (sgL L))),x2,x3,x4,.ow (.lst (zs.map D.str)),.fz (.int (r:Int)),x7]=.ok (.str (Xu L r)):=by
  unfold N6
  rw [em]
  simp only [R.ok_bind]
  rw [ej];rfl
 unfold Gh
 generalize N6 "" (Fd [7] (gN 7) (iR1 (kE (.int 8))) Jy (Agy (vE 1) (G6 (Ac (vF 6) (Ac (vF 7) (Bf)))) (kE (.str "."))))=mm at eF ⊢
 simp [eF,show zs.length<1000000 by omega]
noncomputable def txS (L:List Fl):Str:=⟨(txL (gr L)).toArray⟩
theorem Ad3 (L:List Fl):Str.join "\n" ((List.range 8).map (Xu L))=txS L:=by
 refine Zv ?_
 rw [s10,Ui,List.map_map];rfl
theorem Aki (L:List Fl) (r:Nat):(Xu L r).length=8:=rfl
theorem X3 {L:List Fl}(n:(cover L).Nodup) (lL:L.length<=1000) (hw:∀ f∈L,f.2.2=0\/f.2.2=1):Ce [dFL L]=.ok (.str (txS L)):=by
 obtain⟨E1,e1,t2,t3,t4,rfl,-⟩:=Dv (set:=gN 2) (b:=Gb) dF (λ (pre:List Fl) E=>∃ t2 t3 t4,E=[.fz (dFL L),.ow (.dic (sD (sgL pre))),t2,t3,t4,.un,.un,.un]/\True) L (by
  rintro pre f post epre E ⟨t2,t3,t4,rfl,-⟩
  refine⟨_,rfl,?_⟩
  exact Ek ⟨_,_,_,rfl,trivial⟩ (Rq n lL (hw f (by rw [epre];simp)) epre)) [.fz (dFL L),.ow (.dic (sD (sgL []))),.un,.un,.un,.un,.un,.un] ⟨_,_,_,rfl,trivial⟩
 obtain⟨E2,e2,t6,rfl⟩:=Dv (set:=gN 6) (b:=Gh) (λ (r:Nat)=>D.int (r:Int)) (λ (pre:List Nat) E=>∃ t6,E=[.fz (dFL L),.ow (.dic (sD (sgL L))),t2,t3,t4,.ow (.lst ((pre.map (Xu L)).map D.str)),t6,.un]) (List.range 8) (by
  rintro pre r post epre E ⟨t6,rfl⟩
  refine⟨_,rfl,?_⟩
  have lp:pre.length<=8:=by have:=congrArg List.length epre;simp at this;omega
  refine Ek (E:=[.fz (dFL L),.ow (.dic (sD (sgL L))),t2,t3,t4,.ow (.lst (((pre++[r]).map (Xu L)).map D.str)),.fz (.int (r:Int)),.un]) ⟨_,rfl⟩ ?_
  have:=T4 (L:=L) (r:=r) (zs:=pre.map (Xu L)) (x0:=.fz (dFL L)) (x2:=t2) (x3:=t3) (x4:=t4) (x7:=.un) rfl (by simpa using lp)
  rw [List.map_append]
  exact this) [.fz (dFL L),.ow (.dic (sD (sgL L))),t2,t3,t4,.ow (.lst []),.un,.un] ⟨_,rfl⟩
 have ej:=Xw (sep:="\n") (zs:=(List.range 8).map (Xu L)) (by decide +kernel) (by show ([8,8,8,8,8,8,8,8]:List Nat).sum+8<=1048576;decide)
 rw [Ad3] at ej
 show ended (Il [.fz (dFL L),.un,.un,.un,.un,.un,.un,.un])=_
 have key:Il [.fz (dFL L),.un,.un,.un,.un,.un,.un,.un]=.ok (.rt (.str (txS L))):=by
  unfold Il
  refine Ao (E':=[.fz (dFL L),.ow (.dic (sD (sgL []))),.un,.un,.un,.un,.un,.un]) rfl ?_
  refine Ao (E':=[.fz (dFL L),.ow (.dic (sD (sgL L))),t2,t3,t4,.un,.un,.un]) (by rw [Jr];exact e1) ?_
  refine Ao (E':=[.fz (dFL L),.ow (.dic (sD (sgL L))),t2,t3,t4,.ow (.lst []),.un,.un]) rfl ?_
  refine Ao (by
   rw [Jr]
   rw [show iR1 (kE (.int 8)) [.fz (dFL L),.ow (.dic (sD (sgL L))),t2,t3,t4,.ow (.lst []),.un,.un]=.ok ((List.range 8).map λ (r:Nat)=>D.int (r:Int)) by rw [<-Z7];simp]
   exact e2) ?_
  show ((R.ok (D.lst (((List.range 8).map (Xu L)).map D.str)) >>= λ y=>ofO (Acx (.str "\n") y)) >>= λ d=>R.ok (Out.rt d))=_
  simp only [R.ok_bind]
  rw [ej];rfl
 rw [key];rfl
theorem Rn (a b:Str):fEq (.str a) (.str b)=some (.bl (decide (a=b))):=by
 show some (D.bl (a == b))=_
 congr 2
theorem Ae9 (a b:Str):fNe (.str a) (.str b)=some (.bl (!(decide (a=b)))):=by
 show some (D.bl (!(a == b)))=_
 congr 3
theorem Jc {x y:Nat}:((⟨#[x]⟩:Str)=⟨#[y]⟩) ↔ x=y:=by
 constructor
 ·intro h;injection h with h;simpa using h
 ·rintro rfl;rfl
theorem Ada {a b:Str}(h:a.length+b.length<=1000000):Cg (.str a) (.str b)=some (.str (a++b)):=if_pos h
noncomputable def Aap (g:Nat->Nat->Nat) (r:Nat):Str:=⟨(Fv g r).toArray⟩
noncomputable def al (g:Nat->Nat->Nat) (p:Nat × Nat):Sq × Nat:=(up p,g p.1 p.2)
theorem Ahb {p q:Nat × Nat}(h:up p=up q):p=q:=by
 unfold up at h
 have h1:(p.1:Int)=q.1:=congrArg Prod.fst h
 have h2:(p.2:Int)=q.2:=congrArg Prod.snd h
 exact Prod.ext (by omega) (by omega)
theorem Acr {g:Nat->Nat->Nat}{ps:List (Nat × Nat)}{p:Nat × Nat}(h:p∉ps):up p∉(ps.map (al g)).map (·.1):=λ z=>by
 rw [List.map_map] at z
 obtain⟨q,hq,e⟩:=List.mem_map.mp z
 have e:up q=up p:=e
 rw [Ahb e] at hq
 exact h hq
theorem Yq {xs pre post:List Nat}{x:Nat}(n:xs.Nodup) (e:xs=pre++x :: post):x∉pre:=λ z=>by
 rw [e] at n
 exact (List.nodup_append.mp n).2.2 x z x (by simp) rfl
noncomputable def rws (pre:List Nat):List (Nat × Nat):=pre.flatMap λ r=>(List.range 8).map λ c=>(r,c)
theorem X4:∀ pre:List Nat,(rws pre).length=8 * pre.length
 | []=>rfl
 | r :: t=>by
  have:=X4 t
  unfold rws at this ⊢
  rw [List.flatMap_cons,List.length_append,this,List.length_cons,List.length_map,List.length_range]
  omega
theorem Zf {g:Nat->Nat->Nat}{pre post:List Nat}{r:Nat}{x0 x1 t5' t6':Sl}(e:List.range 8=pre++r :: post) :
  ∃ t5 t6,Bv [x0,x1,.fz (.str (Aap g r)),.ow (.dic (sD ((rws pre).map (al g)))),.fz (.int (r:Int)),t5',t6']=.ok (.nx [x0,x1,.fz (.str (Aap g r)),.ow (.dic (sD ((rws (pre++[r])).map (al g)))),.fz (.int (r:Int)),t5,t6]):=by
 have rp:=Yq List.nodup_range e
 have lp:pre.length<=8:=by have:=congrArg List.length e;simp at this;omega
 have lr:=X4 pre
 obtain⟨E1,e1,t5,t6,rfl⟩:=Dv (set:=gT 5 6) (b:=Dd) (λ (c:Nat)=>D.tup [.int (c:Int),.str ⟨#[g r c]⟩]) (λ (cp:List Nat) E=>∃ t5 t6,E=[x0,x1,.fz (.str (Aap g r)),.ow (.dic (sD ((rws pre++cp.map λ c=>(r,c)).map (al g)))),.fz (.int (r:Int)),t5,t6]) (List.range 8) (by
  rintro cp c cpost ec E ⟨t5,t6,rfl⟩
  refine⟨_,rfl,?_⟩
  have cn:=Yq List.nodup_range ec
  have lc:cp.length<=8:=by have:=congrArg List.length ec;simp at this;omega
  have fr:(r,c)∉rws pre++cp.map λ c=>(r,c):=λ z=>by
   rcases List.mem_append.mp z with z|z
   ·unfold rws at z
    obtain⟨r',hr',z⟩:=List.mem_flatMap.mp z
    obtain⟨c',_,z⟩:=List.mem_map.mp z
    rw [show r'=r from congrArg Prod.fst z] at hr'
    exact rp hr'
   ·obtain⟨c',hc',z⟩:=List.mem_map.mp z
    rw [show c'=c from congrArg Prod.snd z] at hc'
    exact cn hc'
  refine Ek (E:=[x0,x1,.fz (.str (Aap g r)),.ow (.dic (sD ((rws pre++(cp++[c]).map λ c=>(r,c)).map (al g)))),.fz (.int (r:Int)),.fz (.int (c:Int)),.fz (.str ⟨#[g r c]⟩)]) ⟨_,_,rfl⟩ ?_
  unfold Dd
  rw [Q5 (kvs:=sD ((rws pre++cp.map λ c=>(r,c)).map (al g))) (q:=up (r,c)) (v:=.str ⟨#[g r c]⟩) rfl rfl rfl (by rw [Uw,List.length_map,List.length_append,List.length_map,lr];omega),O2 (Acr fr)]
  rw [List.map_append (f:=λ c=>(r,c)),<-List.append_assoc,List.map_append (l₂:=List.map (λ c=>(r,c)) [c])]
  rfl) [x0,x1,.fz (.str (Aap g r)),.ow (.dic (sD ((rws pre).map (al g)))),.fz (.int (r:Int)),t5',t6'] ⟨_,_,by rw [List.map_nil,List.append_nil]⟩
 refine⟨t5,t6,?_⟩
 unfold Bv
 rw [Jr]
 rw [show iEn (vF 2) [x0,x1,.fz (.str (Aap g r)),.ow (.dic (sD ((rws pre).map (al g)))),.fz (.int (r:Int)),t5',t6']=.ok ((List.range 8).map λ (c:Nat)=>D.tup [.int (c:Int),.str ⟨#[g r c]⟩]) from rfl]
 simp only [R.ok_bind]
 rw [e1]
 have:rws (pre++[r])=rws pre++(List.range 8).map λ c=>(r,c):=by
  unfold rws
  rw [List.flatMap_append]
  simp
 rw [this]
theorem Z1:rws (List.range 8)=sqs:=by unfold rws sqs;rfl
theorem enum_rows (f:Nat->D):Ac1 ((List.range 8).map f)=(List.range 8).map λ (r:Nat)=>D.tup [.int (r:Int),f r]:=rfl
noncomputable def dLn (ls:List (List Nat)):D:=.lst (ls.map λ l=>D.str ⟨l.toArray⟩)
structure Lns (ls:List (List Nat)):Prop where
 ne:ls≠[]
 len:ls.length<=9
 fr:∀ l∈ls,10∉l/\l.length<=9
noncomputable def Shape (ls:List (List Nat)):Prop:=ls.length=8/\∀ l∈ls,l.length=8
instance (ls:List (List Nat)):Decidable (Shape ls):=by unfold Shape;exact inferInstance
theorem Adq:∀ {ls:List (List Nat)},(∀ l∈ls,l.length<=9)->(jl 10 ls).length<=10 * ls.length
 | [],_=>Nat.le_refl _
 | [x],h=>by have:=h x (by simp);show x.length<=_;simp;omega
 | x :: y :: r,h=>by
  have h1:=h x (by simp)
  have h2:=Adq (ls:=y :: r) λ l hl=>h l (List.mem_cons_of_mem _ hl)
  show (x++10 :: jl 10 (y :: r)).length<=_
  simp only [List.length_append,List.length_cons] at h2 ⊢
  omega
theorem Wy {ls:List (List Nat)}(h:Lns ls) (x1 x2 x3 x4 x5 x6:Sl):Es 1 (W7 (vE 0) "\n") [.fz (.str ⟨(jl 10 ls).toArray⟩),x1,x2,x3,x4,x5,x6]=.ok (.nx [.fz (.str ⟨(jl 10 ls).toArray⟩),.fz (dLn ls),x2,x3,x4,x5,x6]):=by
 refine Cz (i:=1) (d:=dLn ls) ?_
 have hl:(⟨(jl 10 ls).toArray⟩:Str).length<=90:=by
  have h1:=Adq λ l hl=>(h.fr l hl).2
  have h2:=h.len
  show (jl 10 ls).toArray.size<=90
  simp;omega
 show (if (("\n":Str).length == 0)=false/\(⟨(jl 10 ls).toArray⟩:Str).length<=1000000/\(Txt.split ⟨(jl 10 ls).toArray⟩ "\n").length<=1000000 then R.ok (D.lst ((Txt.split ⟨(jl 10 ls).toArray⟩ "\n").map D.str)) else .no)=_
 have hs:Txt.split ⟨(jl 10 ls).toArray⟩ "\n"=ls.map λ l=>⟨l.toArray⟩:=by rw [s10];exact Abb h.ne λ l hl=>(h.fr l hl).1
 rw [hs,if_pos ⟨by decide +kernel,by omega,by have:=h.len;rw [List.length_map];omega⟩,List.map_map]
 rfl
theorem Ahy:∀ (bs:List Bool),bls (bs.map D.bl)=some bs
 | []=>rfl
 | b :: bs=>by
  show (bls (bs.map D.bl)).map _=_
  rw [Ahy bs];rfl
theorem M5 {ls:List (List Nat)}(h:Lns ls) (x0 x3 x4 x5 x6:Sl):calm (bOr (Bh (e2 fNe (e1 Hf (vE 1)) (kE (.int 8)))) (Bh (e1 Agz (Fd [2] (gN 2) (iD (vF 1)) (Jy) (e2 fNe (e1 Hf (vE 2)) (kE (.int 8))))))) [x0,.fz (dLn ls),.un,x3,x4,x5,x6]=.ok (!(decide (Shape ls))):=by
 refine Gm ?_
 have t1:Bh (e2 fNe (e1 Hf (vE 1)) (kE (.int 8))) [x0,.fz (dLn ls),.un,x3,x4,x5,x6]=.ok (!(decide (ls.length=8))):=by
  refine Dl ?_
  show ofO (fNe (.int ((ls.map λ l=>D.str ⟨l.toArray⟩).length:Int)) (.int 8))=_
  rw [Aa6,List.length_map]
  show R.ok (D.bl _)=_
  congr 3
  exact decide_eq_decide.2 (by omega)
 have t2:Bh (e1 Agz (Fd [2] (gN 2) (iD (vF 1)) (Jy) (e2 fNe (e1 Hf (vE 2)) (kE (.int 8))))) [x0,.fz (dLn ls),.un,x3,x4,x5,x6]=.ok ((ls.map λ l=>!(decide (l.length=8))).any id):=by
  refine Dl ?_
  rw [Aoc,R9,if_pos (show Aan [2] [x0,.fz (dLn ls),.un,x3,x4,x5,x6]=true from rfl),show iD (vF 1) [x0,.fz (dLn ls),.un,x3,x4,x5,x6]=.ok (ls.map λ l=>D.str ⟨l.toArray⟩) from rfl]
  simp only [R.ok_bind]
  rw [if_pos (by have:=h.len;rw [List.length_map];omega),Ih (λ l:List Nat=>D.str ⟨l.toArray⟩) (λ l=>D.bl (!(decide (l.length=8)))) ls (λ l hl=>⟨_,rfl,by
   have h2:=(h.fr l hl).2
   have hln:(⟨l.toArray⟩:Str).length=l.length:=by show l.toArray.size=_;simp
   show (ofO (if (⟨l.toArray⟩:Str).length<=1000000 then some (D.int ((⟨l.toArray⟩:Str).length:Int)) else none) >>= λ x=>ofO (fNe x (.int 8)))=_
   rw [hln,if_pos (by omega)]
   show ofO (fNe (.int (l.length:Int)) (.int 8))=_
   rw [Aa6]
   show R.ok (D.bl _)=_
   congr 3
   exact decide_eq_decide.2 (by omega)⟩)]
  simp only [R.ok_bind]
  show ofO ((bls (ls.map λ l=>D.bl (!(decide (l.length=8))))).map λ bs=>D.bl (bs.any id))=_
  rw [show (ls.map λ l=>D.bl (!(decide (l.length=8))))=(ls.map λ l=>!(decide (l.length=8))).map D.bl by rw [List.map_map];rfl,Ahy]
  rfl
 rw [Zd,t1]
 unfold Shape
 by_cases hl:ls.length=8
 ·simp only [hl,decide_true,Bool.not_true,R.ok_bind,Bool.false_eq_true,if_false,true_and]
  rw [t2]
  congr 1
  by_cases ha:∀ l∈ls,l.length=8
  ·rw [decide_eq_true ha]
   simp only [List.any_map,Bool.not_true,List.any_eq_false]
   intro l hl'
   simp [ha l hl']
  ·rw [decide_eq_false ha]
   simp only [List.any_map,Bool.not_false,List.any_eq_true]
   obtain⟨l,hl'⟩:=Classical.not_forall.mp ha
   obtain⟨h1,h2⟩:=Classical.not_imp.mp hl'
   exact⟨l,h1,by simp [h2]⟩
 ·simp [hl]
theorem Af5 {ls:List (List Nat)}(h:Lns ls) (hs:¬ Shape ls):Am [.str ⟨(jl 10 ls).toArray⟩]=.er 5:=by
 have key:Ax [.fz (.str ⟨(jl 10 ls).toArray⟩),.un,.un,.un,.un,.un,.un]=.er 5:=by
  unfold Ax
  refine Ao (Gm (Wy h _ _ _ _ _ _)) ?_
  have:=M5 h (.fz (.str ⟨(jl 10 ls).toArray⟩)) .un .un .un .un
  rw [decide_eq_false hs] at this
  show (xIf _ _ _ _ >>= _)=_
  rw [Ig,this]
  rfl
 show ended (Ax [.fz (.str ⟨(jl 10 ls).toArray⟩),.un,.un,.un,.un,.un,.un])=_
 rw [key];rfl
theorem Kp (g:Nat->Nat->Nat):Shape (lns g):=⟨by simp [lns],λ l hl=>by
 obtain⟨r,_,rfl⟩:=List.mem_map.mp hl
 simp [Fv]⟩
theorem Jp {g:Nat->Nat->Nat}(h:∀ r c,g r c≠10):Lns (lns g):=⟨by simp [lns],by simp [lns],λ l hl=>by
 obtain⟨r,_,rfl⟩:=List.mem_map.mp hl
 refine⟨λ z=>?_,by simp [Fv]⟩
 obtain⟨c,_,z⟩:=List.mem_map.mp z
 exact h r c z⟩
noncomputable def txG (g:Nat->Nat->Nat):Str:=⟨(txL g).toArray⟩
theorem Alf (g:Nat->Nat->Nat):dLn (lns g)=.lst ((List.range 8).map λ r=>D.str (Aap g r)):=by
 unfold dLn lns
 rw [List.map_map];rfl
theorem Afa {g:Nat->Nat->Nat}(h:∀ r c,g r c≠10):Am [.str (txG g)]=.ok (.dic (sD (sqs.map (al g)))):=by
 obtain⟨E2,e2',t2,t4,t5,t6,rfl⟩:=Dv (set:=gT 4 2) (b:=Bv) (λ (r:Nat)=>D.tup [.int (r:Int),.str (Aap g r)]) (λ (pre:List Nat) E=>∃ t2 t4 t5 t6,E=[.fz (.str (txG g)),.fz (dLn (lns g)),t2,.ow (.dic (sD ((rws pre).map (al g)))),t4,t5,t6]) (List.range 8) (by
  rintro pre r post epre E ⟨t2,t4,t5,t6,rfl⟩
  refine⟨_,rfl,?_⟩
  obtain⟨u5,u6,h⟩:=Zf (g:=g) (x0:=.fz (.str (txG g))) (x1:=.fz (dLn (lns g))) (t5':=t5) (t6':=t6) epre
  exact Ek ⟨_,_,_,_,rfl⟩ h) [.fz (.str (txG g)),.fz (dLn (lns g)),.un,.ow (.dic []),.un,.un,.un] ⟨_,_,_,_,rfl⟩
 have hen:iEn (vF 1) [.fz (.str (txG g)),.fz (dLn (lns g)),.un,.ow (.dic []),.un,.un,.un]=.ok ((List.range 8).map λ (r:Nat)=>D.tup [.int (r:Int),.str (Aap g r)]):=by
  rw [<-enum_rows (λ r=>D.str (Aap g r)),Alf];rfl
 have key:Ax [.fz (.str (txG g)),.un,.un,.un,.un,.un,.un]=.ok (.rt (.dic (sD ((rws (List.range 8)).map (al g))))):=by
  unfold Ax
  refine Ao (Gm (Wy (Jp h) _ _ _ _ _ _)) ?_
  have:=M5 (Jp h) (.fz (.str (txG g))) .un .un .un .un
  rw [decide_eq_true (Kp g)] at this
  refine Ao (E':=[.fz (.str (txG g)),.fz (dLn (lns g)),.un,.un,.un,.un,.un]) ?_ ?_
  ·show xIf _ _ _ [.fz (.str (txG g)),.fz (dLn (lns g)),.un,.un,.un,.un,.un]=_
   rw [Ig,this];rfl
  refine Ao (E':=[.fz (.str (txG g)),.fz (dLn (lns g)),.un,.ow (.dic []),.un,.un,.un]) rfl ?_
  refine Ao (E':=[.fz (.str (txG g)),.fz (dLn (lns g)),t2,.ow (.dic (sD ((rws (List.range 8)).map (al g)))),t4,t5,t6]) (Gm ?_) rfl
  rw [Jr,hen]
  simp only [R.ok_bind]
  exact e2'
 show ended (Ax [.fz (.str (txG g)),.un,.un,.un,.un,.un,.un])=_
 rw [key,Z1];rfl
theorem Yo:sqs.length=64:=rfl
theorem Uv (g:Nat->Nat->Nat):(sD (sqs.map (al g))).map (λ kv=>D.tup [kT kv.1,kv.2])=sqs.map λ p=>D.tup [dS (up p),.str ⟨#[g p.1 p.2]⟩]:=by
 unfold sD
 rw [List.map_map,List.map_map];rfl
theorem V6 {g:Nat->Nat->Nat}{M:List Fl}{p:Nat × Nat}{x0 x4:Sl}(lM:M.length<=1000) :
  ∃ u4,Dm [x0,.ow (dFL M),.fz (dS (up p)),.fz (.str ⟨#[g p.1 p.2]⟩),x4]=.ok (.nx [x0,.ow (dFL (M++(fl1 g p).toList)),.fz (dS (up p)),.fz (.str ⟨#[g p.1 p.2]⟩),u4]):=by
 refine⟨.fz (.int 1),?_⟩
 have b0:Bq [x0,.ow (dFL M),.fz (dS (up p)),.fz (.str ⟨#[g p.1 p.2]⟩),.fz (.int 0)]=.ok (.nx [x0,.ow (dFL (if g p.1 p.2=60 then M++[((p.1:Int),(p.2:Int),0)] else M)),.fz (dS (up p)),.fz (.str ⟨#[g p.1 p.2]⟩),.fz (.int 0)]):=by
  unfold Bq
  have ht:Bh (e2 fEq (vE 3) (Abs 0 (vE 4))) [x0,.ow (dFL M),.fz (dS (up p)),.fz (.str ⟨#[g p.1 p.2]⟩),.fz (.int 0)]=.ok (decide (g p.1 p.2=60)):=by
   refine Dl ?_
   show ofO (fEq (.str ⟨#[g p.1 p.2]⟩) (.str "<"))=_
   rw [s60,Rn]
   show R.ok (D.bl _)=_
   congr 2
   exact decide_eq_decide.2 Jc
  rw [Ig,ht]
  by_cases h:g p.1 p.2=60
  ·simp [h,show M.length<1000000 by omega,up]
  ·simp [h]
 generalize hM:(if g p.1 p.2=60 then M++[((p.1:Int),(p.2:Int),(0:Int))] else M)=M' at b0
 have lM':M'.length<1000000:=by rw [<-hM];split<;>(try simp)<;>omega
 have b1:Bq [x0,.ow (dFL M'),.fz (dS (up p)),.fz (.str ⟨#[g p.1 p.2]⟩),.fz (.int 1)]=.ok (.nx [x0,.ow (dFL (M++(fl1 g p).toList)),.fz (dS (up p)),.fz (.str ⟨#[g p.1 p.2]⟩),.fz (.int 1)]):=by
  unfold Bq
  have ht:Bh (e2 fEq (vE 3) (Abs 0 (vE 4))) [x0,.ow (dFL M'),.fz (dS (up p)),.fz (.str ⟨#[g p.1 p.2]⟩),.fz (.int 1)]=.ok (decide (g p.1 p.2=94)):=by
   refine Dl ?_
   show ofO (fEq (.str ⟨#[g p.1 p.2]⟩) (.str "^"))=_
   rw [s94,Rn]
   show R.ok (D.bl _)=_
   congr 2
   exact decide_eq_decide.2 Jc
  rw [Ig,ht]
  unfold fl1
  by_cases h:g p.1 p.2=60
  ·rw [if_pos h] at hM
   have h':¬ g p.1 p.2=94:=by omega
   rw [if_pos h,<-hM]
   simp [h']
  ·rw [if_neg h] at hM
   by_cases h':g p.1 p.2=94
   ·rw [if_neg h,if_pos h',hM]
    simp [h',lM',up]
   ·rw [if_neg h,if_neg h',hM]
    simp [h']
 unfold Dm
 show forL (gN 4) Bq [.int 0,.int 1] [x0,.ow (dFL M),.fz (dS (up p)),.fz (.str ⟨#[g p.1 p.2]⟩),x4]=_
 rw [Ht (set:=gN 4) rfl b0]
 rw [Ht (set:=gN 4) rfl b1]
 rfl
theorem Ox (g:Nat->Nat->Nat):Bl [.dic (sD (sqs.map (al g)))]=.ok (dFL (flagsOf g sqs)):=by
 obtain⟨E1,e1,t2,t3,t4,rfl⟩:=Dv (set:=gT 2 3) (b:=Dm) (λ (p:Nat × Nat)=>D.tup [dS (up p),.str ⟨#[g p.1 p.2]⟩]) (λ (pre:List (Nat × Nat)) E=>∃ t2 t3 t4,E=[.fz (.dic (sD (sqs.map (al g)))),.ow (dFL (flagsOf g pre)),t2,t3,t4]) sqs (by
  rintro pre p post epre E ⟨t2,t3,t4,rfl⟩
  refine⟨_,rfl,?_⟩
  have lp:pre.length<=64:=by have:=congrArg List.length epre;rw [Yo] at this;simp at this;omega
  have lf:(flagsOf g pre).length<=1000:=by
   have:(flagsOf g pre).length<=pre.length:=List.length_filterMap_le ..
   omega
  obtain⟨u4,h⟩:=V6 (g:=g) (M:=flagsOf g pre) (p:=p) (x0:=.fz (.dic (sD (sqs.map (al g))))) (x4:=t4) lf
  refine Ek (E:=[.fz (.dic (sD (sqs.map (al g)))),.ow (dFL (flagsOf g (pre++[p]))),.fz (dS (up p)),.fz (.str ⟨#[g p.1 p.2]⟩),u4]) ⟨_,_,_,rfl⟩ (h.trans ?_)
  have:flagsOf g (pre++[p])=flagsOf g pre++(fl1 g p).toList:=by
   unfold flagsOf
   rw [List.filterMap_append]
   congr 1
  rw [this]) [.fz (.dic (sD (sqs.map (al g)))),.ow (dFL []),.un,.un,.un] ⟨_,_,_,rfl⟩
 have key:Ed [.fz (.dic (sD (sqs.map (al g)))),.un,.un,.un,.un]=.ok (.rt (dFL (flagsOf g sqs))):=by
  unfold Ed
  refine Ao (E':=[.fz (.dic (sD (sqs.map (al g)))),.ow (dFL []),.un,.un,.un]) rfl ?_
  refine Ao (by
   rw [Jr]
   rw [show iDi (vF 0) [.fz (.dic (sD (sqs.map (al g)))),.ow (dFL []),.un,.un,.un]=.ok ((sD (sqs.map (al g))).map (λ kv=>D.tup [kT kv.1,kv.2])) from rfl,Uv]
   exact e1) ?_
  rfl
 show ended (Ed [.fz (.dic (sD (sqs.map (al g)))),.un,.un,.un,.un])=_
 rw [key];rfl
theorem Adz {a b:Nat->Nat->Nat}(ha:∀ r c,a r c≠10) (hb:∀ r c,b r c≠10):txG a=txG b ↔ ∀ p∈sqs,a p.1 p.2=b p.1 p.2:=by
 constructor
 ·intro h p hp
  have h1:txL a=txL b:=by
   have:=congrArg (λ s:Str=>s.cps.toList) h
   exact this
  have h2:lns a=lns b:=W6 (Jp ha).ne (Jp hb).ne (λ l hl=>((Jp ha).fr l hl).1) (λ l hl=>((Jp hb).fr l hl).1) h1
  obtain⟨p1,p2⟩:=Df.mp hp
  have h3:Fv a p.1=Fv b p.1:=List.map_inj_left.mp h2 p.1 (List.mem_range.mpr p1)
  exact List.map_inj_left.mp h3 p.2 (List.mem_range.mpr p2)
 ·intro h
  have h2:lns a=lns b:=List.map_congr_left λ r hr=>List.map_congr_left λ c hc=>h (r,c) (Df.mpr ⟨List.mem_range.mp hr,List.mem_range.mp hc⟩)
  unfold txG txL
  rw [h2]
theorem Ahw {ls:List (List Nat)}(h:Lns ls) (hs:¬ Shape ls):Cu [.str ⟨(jl 10 ls).toArray⟩]=.er 5:=by
 have key:Km [.fz (.str ⟨(jl 10 ls).toArray⟩),.un,.un,.un,.un,.un]=.er 5:=by
  unfold Km
  have e1:Es 1 (Bj 1 Am (calm (Ac (vF 0) (Bf)))) [.fz (.str ⟨(jl 10 ls).toArray⟩),.un,.un,.un,.un,.un]=.er 5:=by
   unfold Es
   show ((if ([D.str ⟨(jl 10 ls).toArray⟩]:List D).length=1 then Am [.str ⟨(jl 10 ls).toArray⟩] else .no) >>= _)=_
   rw [if_pos (by rfl),Af5 h hs];rfl
  unfold Bg
  rw [e1];rfl
 show ended (Km [.fz (.str ⟨(jl 10 ls).toArray⟩),.un,.un,.un,.un,.un])=_
 rw [key];rfl
theorem Uh {g:Nat->Nat->Nat}:G9 (cover (flagsOf g sqs))=floorOf g sqs ↔ Lay (floorOf g sqs) (flagsOf g sqs):=by
 constructor
 ·intro h
  exact⟨U5 g,Rj,by rw [<-h];exact (Jk _).symm⟩
 ·intro h
  exact Ub (Fy g).ord h.cov
theorem Xj (L:List Fl):(cover L).length=2 * L.length:=by
 unfold cover;rw [List.length_flatMap];simp only [cells,List.length_cons,List.length_nil,List.map_const',List.sum_replicate_nat];omega
theorem Abn {g:Nat->Nat->Nat}(hl:(flagsOf g sqs).length<=33):Av [dL (floorOf g sqs),dFL (flagsOf g sqs)]=.ok (.bl (decide (G9 (cover (flagsOf g sqs))=floorOf g sqs))):=by
 rw [Ks (Fy g) _ (by rw [Xj];omega),Uy (U5 g)]
 have:((flagsOf g sqs).all λ f=>decide (f.2.2=0\/f.2.2=1))=true:=by
  rw [List.all_eq_true];intro f hf;simpa using Rj f hf
 rw [this,Bool.true_and,Bool.true_and]
theorem Aid {g:Nat->Nat->Nat}(h10:∀ r c,g r c≠10) (hl:(flagsOf g sqs).length<=33):Cu [.str (txG g)]=if sqs.all (mOk g)=true then .ok (.tup [dL (floorOf g sqs),dFL (flagsOf g sqs)]) else .er 5:=by
 have e1':=Afa h10
 have e2':=Ox g
 have e3:=Abn hl
 obtain⟨S,hS⟩:∃ S:D,S=.dic (sD (sqs.map (al g))):=⟨_,rfl⟩
 have ef:Fd [2,3] (gT 2 3) (iDi (vF 1)) (Bh (e2 fNe (vE 3) (kE (.str ".")))) (vF 2) [.fz (.str (txG g)),.fz S,.un,.un,.un,.un]=.ok (dL (floorOf g sqs)):=by
  have hi:iDi (vF 1) [.fz (.str (txG g)),.fz S,.un,.un,.un,.un]=.ok (sqs.map λ p=>D.tup [dS (up p),.str ⟨#[g p.1 p.2]⟩]):=by
   rw [<-Uv,hS];rfl
  rw [R9,hi,if_pos (show Aan [2,3] [.fz (.str (txG g)),.fz S,.un,.un,.un,.un]=true from rfl)]
  simp only [R.ok_bind]
  rw [if_pos (by rw [List.length_map,Yo];decide)]
  rw [J3 (λ p:Nat × Nat=>D.tup [dS (up p),.str ⟨#[g p.1 p.2]⟩]) (λ p=>!(decide (g p.1 p.2=46))) (λ p=>dS (up p)) sqs (λ p _=>⟨_,rfl,by
   refine Dl ?_
   show ofO (fNe (.str ⟨#[g p.1 p.2]⟩) (.str "."))=_
   rw [s46,Ae9]
   show R.ok (D.bl _)=_
   congr 3
   exact decide_eq_decide.2 Jc,λ _=>rfl⟩)]
  simp only [R.ok_bind]
  show R.ok (D.lst _)=R.ok (D.lst ((floorOf g sqs).map dS))
  unfold floorOf
  rw [List.map_map];rfl
 rw [<-hS] at e1' e2'
 have go:∀ (r:R Out),(Bg (xIf (calm (bOr (Ot (Bh (Bj 2 Av (Ac (vF 4) (Ac (vF 5) (Bf)))))) (Bh (e2 fNe (Bj 1 Ce (Ac (vF 5) (Bf))) (vE 0))))) (Vc 5) (Ga)) (calm (Ey (G6 (Ac (vF 4) (Ac (vF 5) (Bf))))))) [.fz (.str (txG g)),.fz S,.un,.un,.fz (dL (floorOf g sqs)),.fz (dFL (flagsOf g sqs))]=r->Km [.fz (.str (txG g)),.un,.un,.un,.un,.un]=r:=λ r hr=>by
  unfold Km
  refine Ao (E':=[.fz (.str (txG g)),.fz S,.un,.un,.un,.un]) (Cz (by
   show (if ([D.str (txG g)]:List D).length=1 then Am [.str (txG g)] else .no)=_
   rw [if_pos (by rfl),e1'])) ?_
  refine Ao (E':=[.fz (.str (txG g)),.fz S,.un,.un,.fz (dL (floorOf g sqs)),.un]) (Gm (Cz ef)) ?_
  refine Ao (E':=[.fz (.str (txG g)),.fz S,.un,.un,.fz (dL (floorOf g sqs)),.fz (dFL (flagsOf g sqs))]) (Gm (Cz ?_)) hr
  show (if ([S]:List D).length=1 then Bl [S] else .no)=_
  rw [if_pos (by rfl),e2']
 have test:∀ b:Bool,calm (bOr (Ot (Bh (Bj 2 Av (Ac (vF 4) (Ac (vF 5) (Bf)))))) (Bh (e2 fNe (Bj 1 Ce (Ac (vF 5) (Bf))) (vE 0)))) [.fz (.str (txG g)),.fz S,.un,.un,.fz (dL (floorOf g sqs)),.fz (dFL (flagsOf g sqs))]=.ok b →
   Cu [.str (txG g)]=if b=true then .er 5 else .ok (.tup [dL (floorOf g sqs),dFL (flagsOf g sqs)]):=λ b hb=>by
  show ended (Km [.fz (.str (txG g)),.un,.un,.un,.un,.un])=_
  cases b with
  | true =>
   rw [go (.er 5) (by
    unfold Bg
    rw [Ig,hb];rfl)]
   rfl
  | false =>
   rw [go (.ok (.rt (.tup [dL (floorOf g sqs),dFL (flagsOf g sqs)]))) (Ao (by rw [Ig,hb];rfl) rfl)]
   rfl
 have tl':Bh (Bj 2 Av (Ac (vF 4) (Ac (vF 5) (Bf)))) [.fz (.str (txG g)),.fz S,.un,.un,.fz (dL (floorOf g sqs)),.fz (dFL (flagsOf g sqs))]=.ok (decide (G9 (cover (flagsOf g sqs))=floorOf g sqs)):=by
  refine Dl ?_
  show (if ([dL (floorOf g sqs),dFL (flagsOf g sqs)]:List D).length=2 then Av [dL (floorOf g sqs),dFL (flagsOf g sqs)] else .no)=_
  rw [if_pos (by rfl),e3]
 by_cases hL:Lay (floorOf g sqs) (flagsOf g sqs)
 ·have e4:=X3 (L:=flagsOf g sqs) (hL.cov.nodup_iff.mpr (Di (Fy g).ord)) (by omega) Rj
  rw [decide_eq_true (Uh.mpr hL)] at tl'
  have eq:Cu [.str (txG g)]=_:=test (!(decide (txG (gr (flagsOf g sqs))=txG g))) (Gm (by
   rw [Zd,Adt tl']
   show Bh (e2 fNe (Bj 1 Ce (Ac (vF 5) (Bf))) (vE 0)) _=_
   refine Dl ?_
   show ((if ([dFL (flagsOf g sqs)]:List D).length=1 then Ce [dFL (flagsOf g sqs)] else .no) >>= λ x=>ofO (fNe x (.str (txG g))))=_
   rw [if_pos (by rfl),e4]
   show ofO (fNe (.str (txG (gr (flagsOf g sqs)))) (.str (txG g)))=_
   rw [Ae9];rfl))
  rw [eq]
  by_cases ha:sqs.all (mOk g)=true
  ·rw [if_pos ha,decide_eq_true ((Adz (Aez _) h10).mpr (W5 (List.all_eq_true.mp ha)))]
   rfl
  ·rw [if_neg ha,decide_eq_false λ z=>ha (List.all_eq_true.mpr (Ti hL ((Adz (Aez _) h10).mp z)))]
   rfl
 ·rw [decide_eq_false λ z=>hL (Uh.mp z)] at tl'
  rw [test true (Gm (by
   rw [Zd]
   unfold Ot
   rw [tl'];rfl))]
  rw [if_pos rfl,if_neg λ ha=>hL (Ni (List.all_eq_true.mp ha))]
theorem Aha {ls:List (List Nat)}(h:Lns ls) (hs:¬ Shape ls):Bo [.str ⟨(jl 10 ls).toArray⟩]=.ok (.int 0):=by
 show ended (Afe (Ey (Bj 1 Cu (calm (Ac (vF 0) (Bf))))) El [.fz (.str ⟨(jl 10 ls).toArray⟩),.un])=_
 have:Ey (Bj 1 Cu (calm (Ac (vF 0) (Bf)))) [.fz (.str ⟨(jl 10 ls).toArray⟩),.un]=.er 5:=by
  show ((if ([D.str ⟨(jl 10 ls).toArray⟩]:List D).length=1 then Cu [.str ⟨(jl 10 ls).toArray⟩] else .no) >>= _)=_
  rw [if_pos (by rfl),Ahw h hs];rfl
 unfold Afe
 rw [this];rfl
theorem Aja {g:Nat->Nat->Nat}(h10:∀ r c,g r c≠10) (hl:(flagsOf g sqs).length<=33):Bo [.str (txG g)]=.ok (if sqs.all (mOk g)=true then .tup [dL (floorOf g sqs),dFL (flagsOf g sqs)] else .int 0):=by
 show ended (Afe (Ey (Bj 1 Cu (calm (Ac (vF 0) (Bf))))) El [.fz (.str (txG g)),.un])=_
 have:Ey (Bj 1 Cu (calm (Ac (vF 0) (Bf)))) [.fz (.str (txG g)),.un]=(Cu [.str (txG g)] >>= λ d=>R.ok (Out.rt d)):=by
  show ((if ([D.str (txG g)]:List D).length=1 then Cu [.str (txG g)] else .no) >>= _)=_
  rw [if_pos (by rfl)]
 unfold Afe
 rw [this,Aid h10 hl]
 by_cases ha:sqs.all (mOk g)=true
 ·rw [if_pos ha,if_pos ha];rfl
 ·rw [if_neg ha,if_neg ha];rfl
theorem Rc (q:Sq):∀ ps:List (Sq × Nat),(look ps q).isSome=decide (q∈ps.map (·.1))
 | []=>rfl
 | p :: r=>by
  rw [show look (p :: r) q=if p.1=q then some p.2 else look r q from rfl]
  by_cases h:p.1=q
  ·rw [if_pos h];simp [h]
  ·rw [if_neg h,Rc q r]
   refine decide_eq_decide.2 ⟨λ z=>List.mem_cons_of_mem _ z,λ z=>?_⟩
   rcases List.mem_cons.mp z with z|z
   ·exact absurd z.symm h
   ·exact z
theorem Je (a b:Int) (ps:List (Sq × Nat)):Gp (.tup [.int a,.int b]) (.dic (sD ps))=some (.bl (!(decide ((a,b)∈ps.map (·.1))))):=by
 show some (D.bl (!(Mh (sD ps) [((a,b):Sq).1,((a,b):Sq).2]).isSome))=_
 rw [Vd,Option.isSome_map,Rc]
theorem Vt (s0 s1 t10 t11 t12 t13:Sl) (high wide top left nb k:Int) (ps:List (Sq × Nat)) (hw:0<wide) (hw2:wide<1073741824) (lS:ps.length<1000) :
  (∃ u12 u13,Bx [s0,s1,.fz (.int high),.fz (.int wide),.fz (.int top),.fz (.int left),.fz (.int nb),.ow (.dic (sD ps)),.fz (.int k),t10,t11,t12,t13] =
   .ok (.nx [s0,s1,.fz (.int high),.fz (.int wide),.fz (.int top),.fz (.int left),.fz (.int (nb * 48271 % 2147483647)),.ow (.dic (sD ps)),.fz (.int k),.fz (.int (top+k / wide)),.fz (.int (left+k % wide)),u12,u13])) ∨
  (∃ lies u12 u13,(lies=0/\left+k % wide+1<left+wide/\(top+k / wide,left+k % wide+1)∉ps.map (·.1)\/lies=1/\top+k / wide+1<top+high)/\(top+k / wide,left+k % wide)∉ps.map (·.1) ∧
   Bx [s0,s1,.fz (.int high),.fz (.int wide),.fz (.int top),.fz (.int left),.fz (.int nb),.ow (.dic (sD ps)),.fz (.int k),t10,t11,t12,t13] =
   .ok (.nx [s0,s1,.fz (.int high),.fz (.int wide),.fz (.int top),.fz (.int left),.fz (.int (nb * 48271 % 2147483647)),
    .ow (.dic (dput (dput (sD ps) [top+k / wide,left+k % wide] (.str ⟨#[sg0 lies]⟩)) [top+k / wide+lies,left+k % wide+1-lies] (.str ⟨#[sg1 lies]⟩))),.fz (.int k),.fz (.int (top+k / wide)),.fz (.int (left+k % wide)),u12,u13])):=by
 generalize hr:top+k / wide=row
 generalize hc:left+k % wide=col
 generalize hn:nb * 48271 % 2147483647=nc
 let P:R Out->Prop:=λ x=>(∃ u12 u13,x=.ok (.nx [s0,s1,.fz (.int high),.fz (.int wide),.fz (.int top),.fz (.int left),.fz (.int nc),.ow (.dic (sD ps)),.fz (.int k),.fz (.int row),.fz (.int col),u12,u13])) ∨
  (∃ lies u12 u13,(lies=0/\col+1<left+wide/\(row,col+1)∉ps.map (·.1)\/lies=1/\row+1<top+high)/\(row,col)∉ps.map (·.1) ∧
   x=.ok (.nx [s0,s1,.fz (.int high),.fz (.int wide),.fz (.int top),.fz (.int left),.fz (.int nc),
    .ow (.dic (dput (dput (sD ps) [row,col] (.str ⟨#[sg0 lies]⟩)) [row+lies,col+1-lies] (.str ⟨#[sg1 lies]⟩))),.fz (.int k),.fz (.int row),.fz (.int col),u12,u13]))
 show P (Bx _)
 unfold Bx
 have l1:(sD ps).length<1000000:=by rw [Uw];omega
 have lp:∀ v:D,(dput (sD ps) [row,col] v).length<1000000:=λ v=>by
  unfold dput
  split<;>simp [sD]<;>omega
 refine Abi [s0,s1,.fz (.int high),.fz (.int wide),.fz (.int top),.fz (.int left),.fz (.int nb),.ow (.dic (sD ps)),.fz (.int k),.fz (.int row),t11,t12,t13] P (by simp [hw,hw2,hr]) ?_
 refine Abi [s0,s1,.fz (.int high),.fz (.int wide),.fz (.int top),.fz (.int left),.fz (.int nb),.ow (.dic (sD ps)),.fz (.int k),.fz (.int row),.fz (.int col),t12,t13] P (by simp [hw,hw2,hc]) ?_
 refine Abi [s0,s1,.fz (.int high),.fz (.int wide),.fz (.int top),.fz (.int left),.fz (.int nc),.ow (.dic (sD ps)),.fz (.int k),.fz (.int row),.fz (.int col),t12,t13] P (by simp [hn]) ?_
 refine Abi [s0,s1,.fz (.int high),.fz (.int wide),.fz (.int top),.fz (.int left),.fz (.int nc),.ow (.dic (sD ps)),.fz (.int k),.fz (.int row),.fz (.int col),.ow (.lst []),t13] P (by simp) ?_
 have put:∀ (fr:List D) (q:Int) (lies:Int),Kd (.int (nc / 64)) (.int fr.length)=some (.int q)->fIx (.lst fr) (.int q)=some (.int lies)->0<fr.length->(lies=0/\col+1<left+wide/\(row,col+1)∉ps.map (·.1)\/lies=1/\row+1<top+high)->(row,col)∉ps.map (·.1)->P (xIf (Bh (e2 fGt (e1 Hf (vE 11)) (kE (.int 0)))) (Bg (Es 12 (e2 fIx (vE 11) (e2 Kd (e2 T8 (vE 6) (kE (.int 64))) (e1 Hf (vE 11))))) (Bg (Jx 7 (G6 (Ac (vF 9) (Ac (vF 10) (Bf)))) (e2 fIx (K6 (Ac (kE (.str "<")) (Ac (kE (.str "^")) (Bf)))) (vE 12))) (Jx 7 (G6 (Ac (e2 Cg (vE 9) (vE 12)) (Ac (e2 Zk (e2 Cg (vE 10) (kE (.int 1))) (vE 12)) (Bf)))) (e2 fIx (K6 (Ac (kE (.str ">")) (Ac (kE (.str "v")) (Bf)))) (vE 12))))) (Ga)
   [s0,s1,.fz (.int high),.fz (.int wide),.fz (.int top),.fz (.int left),.fz (.int nc),.ow (.dic (sD ps)),.fz (.int k),.fz (.int row),.fz (.int col),.ow (.lst fr),t13]):=λ fr q lies h1 h2 h3 h4 h5=>by
  refine .inr ⟨lies,.ow (.lst fr),.fz (.int lies),h4,h5,?_⟩
  simp only [Ig]
  rw [show Bh (e2 fGt (e1 Hf (vE 11)) (kE (.int 0))) [s0,s1,.fz (.int high),.fz (.int wide),.fz (.int top),.fz (.int left),.fz (.int nc),.ow (.dic (sD ps)),.fz (.int k),.fz (.int row),.fz (.int col),.ow (.lst fr),t13]=.ok true by simp;exact h3]
  simp only [R.ok_bind,if_true]
  have v1:ofO (atI [D.str "<",D.str "^"] lies)=.ok (.str ⟨#[sg0 lies]⟩):=by
   rcases h4 with ⟨rfl,_⟩|⟨rfl,_⟩
   ·rw [show sg0 0=60 from rfl,<-s60];rfl
   ·rw [show sg0 1=94 from rfl,<-s94];rfl
  have v2:ofO (atI [D.str ">",D.str "v"] lies)=.ok (.str ⟨#[sg1 lies]⟩):=by
   rcases h4 with ⟨rfl,_⟩|⟨rfl,_⟩
   ·rw [show sg1 0=62 from rfl,<-s62];rfl
   ·rw [show sg1 1=118 from rfl,<-Apd];rfl
  refine Ao (E':=[s0,s1,.fz (.int high),.fz (.int wide),.fz (.int top),.fz (.int left),.fz (.int nc),.ow (.dic (sD ps)),.fz (.int k),.fz (.int row),.fz (.int col),.ow (.lst fr),.fz (.int lies)]) (by simp [-Ahe,h1,h2]) ?_
  refine Ao (E':=[s0,s1,.fz (.int high),.fz (.int wide),.fz (.int top),.fz (.int left),.fz (.int nc),.ow (.dic (dput (sD ps) [row,col] (.str ⟨#[sg0 lies]⟩))),.fz (.int k),.fz (.int row),.fz (.int col),.ow (.lst fr),.fz (.int lies)]) (Q5 (kvs:=sD ps) (q:=(row,col)) rfl rfl v1 l1) ?_
  exact Q5 (kvs:=dput (sD ps) [row,col] (.str ⟨#[sg0 lies]⟩)) (q:=(row+lies,col+1-lies)) rfl rfl v2 (lp _)
 have nil:P (xIf (Bh (e2 fGt (e1 Hf (vE 11)) (kE (.int 0)))) (Bg (Es 12 (e2 fIx (vE 11) (e2 Kd (e2 T8 (vE 6) (kE (.int 64))) (e1 Hf (vE 11))))) (Bg (Jx 7 (G6 (Ac (vF 9) (Ac (vF 10) (Bf)))) (e2 fIx (K6 (Ac (kE (.str "<")) (Ac (kE (.str "^")) (Bf)))) (vE 12))) (Jx 7 (G6 (Ac (e2 Cg (vE 9) (vE 12)) (Ac (e2 Zk (e2 Cg (vE 10) (kE (.int 1))) (vE 12)) (Bf)))) (e2 fIx (K6 (Ac (kE (.str ">")) (Ac (kE (.str "v")) (Bf)))) (vE 12))))) (Ga)
   [s0,s1,.fz (.int high),.fz (.int wide),.fz (.int top),.fz (.int left),.fz (.int nc),.ow (.dic (sD ps)),.fz (.int k),.fz (.int row),.fz (.int col),.ow (.lst []),t13]):=.inl ⟨.ow (.lst []),t13,by simp⟩
 have one:∀ d:D,Kd (.int (nc / 64)) (.int ([d]:List D).length)=some (.int 0):=λ d=>by simp [Int.emod_one]
 by_cases hA:(row,col)∉ps.map (·.1)/\¬ nc / 8 % 8=5
 ·by_cases hB:col+1<left+wide/\(row,col+1)∉ps.map (·.1)
  ·by_cases hC:row+1<top+high
   ·refine Abi [s0,s1,.fz (.int high),.fz (.int wide),.fz (.int top),.fz (.int left),.fz (.int nc),.ow (.dic (sD ps)),.fz (.int k),.fz (.int row),.fz (.int col),.ow (.lst [.int 0,.int 1]),t13] P (by simp [hA,hB,hC,Je]) ?_
    rcases Int.emod_two_eq (nc / 64) with h2|h2
    ·exact put _ 0 0 (by simp [h2]) rfl (by decide) (.inl ⟨rfl,hB⟩) hA.1
    ·exact put _ 1 1 (by simp [h2]) rfl (by decide) (.inr ⟨rfl,hC⟩) hA.1
   ·exact Abi [s0,s1,.fz (.int high),.fz (.int wide),.fz (.int top),.fz (.int left),.fz (.int nc),.ow (.dic (sD ps)),.fz (.int k),.fz (.int row),.fz (.int col),.ow (.lst [.int 0]),t13] P (by simp [hA,hB,hC,Je]) (put _ 0 0 (one _) rfl (by decide) (.inl ⟨rfl,hB⟩) hA.1)
  ·have hB':¬ (col+1<left+wide)\/(row,col+1)∈ps.map (·.1):=by
    by_cases h:(row,col+1)∈ps.map (·.1)
    ·exact .inr h
    ·exact .inl λ z=>hB ⟨z,h⟩
   by_cases hC:row+1<top+high
   ·refine Abi [s0,s1,.fz (.int high),.fz (.int wide),.fz (.int top),.fz (.int left),.fz (.int nc),.ow (.dic (sD ps)),.fz (.int k),.fz (.int row),.fz (.int col),.ow (.lst [.int 1]),t13] P ?_ (put _ 0 1 (one _) rfl (by decide) (.inr ⟨rfl,hC⟩) hA.1)
    rcases hB' with h|h<;>simp [hA,h,hC,Je]
   ·refine Abi [s0,s1,.fz (.int high),.fz (.int wide),.fz (.int top),.fz (.int left),.fz (.int nc),.ow (.dic (sD ps)),.fz (.int k),.fz (.int row),.fz (.int col),.ow (.lst []),t13] P ?_ nil
    rcases hB' with h|h<;>simp [hA,h,hC,Je]
 ·refine Abi [s0,s1,.fz (.int high),.fz (.int wide),.fz (.int top),.fz (.int left),.fz (.int nc),.ow (.dic (sD ps)),.fz (.int k),.fz (.int row),.fz (.int col),.ow (.lst []),t13] P ?_ nil
  by_cases hA1:(row,col)∈ps.map (·.1)
  ·simp [hA1,Je]
  ·have hA2:nc / 8 % 8=5:=by
    by_cases h:nc / 8 % 8=5
    ·exact h
    ·exact absurd ⟨hA1,h⟩ hA
   simp [hA1,hA2,Je]
theorem Wk (s0 s1:Sl) (high wide top left nb:Int) (hw:0<wide) (hw2:wide<=8) (hh:0<high) (hh2:high<=8) (ht:0<=top) (hl:0<=left) (h1:top+high<=8) (h2:left+wide<=8) :
  ∃ (nb':Int) (L:List Fl) (t9 t10 t11 t12 t13:Sl),forL (gN 8) Bx ((rng 0 (high * wide)).map D.int) [s0,s1,.fz (.int high),.fz (.int wide),.fz (.int top),.fz (.int left),.fz (.int nb),.ow (.dic []),.un,.un,.un,.un,.un] =
   .ok (.nx [s0,s1,.fz (.int high),.fz (.int wide),.fz (.int top),.fz (.int left),.fz (.int nb'),.ow (.dic (sD (sgL L))),t9,t10,t11,t12,t13])/\Drawn high wide top left (G9 (cover L)) L:=by
 have hn:high * wide<=64:=by
  have h1:high * wide<=8 * wide:=Int.mul_le_mul_of_nonneg_right hh2 (by omega)
  omega
 obtain⟨E1,e1,nb',L,t9,t10,t11,t12,t13,rfl,hL⟩:=Dv (set:=gN 8) (b:=Bx) D.int (λ (pre:List Int) E=>∃ (nb:Int) (L:List Fl) (t9 t10 t11 t12 t13:Sl),E=[s0,s1,.fz (.int high),.fz (.int wide),.fz (.int top),.fz (.int left),.fz (.int nb),.ow (.dic (sD (sgL L))),t9,t10,t11,t12,t13]/\LInv high wide top left pre L) (rng 0 (high * wide)) (by
  rintro pre k post epre E ⟨nb,L,t9,t10,t11,t12,t13,rfl,hL⟩
  refine⟨_,rfl,?_⟩
  have lp:=Agp epre
  have lS:(sgL L).length<1000:=by
   rw [Sy]
   have:=hL.len;omega
  have hk:∀ k'∈pre,k'<k:=λ k' hk'=>by
   have:=Py 0 (high * wide)
   rw [epre,List.pairwise_append] at this
   exact this.2.2 k' hk' k (by simp)
  rcases Vt s0 s1 t10 t11 t12 t13 high wide top left nb k (sgL L) hw (by omega) lS with ⟨u12,u13,e⟩|⟨lies,u12,u13,hc,hp,e⟩
  ·exact Ek ⟨_,L,_,_,_,_,_,rfl,hL.same k⟩ e
  ·rw [Hq] at hc hp
   obtain⟨hL',hm,hn,hne⟩:=hL.new hw hk hc hp
   refine Ek ⟨nb * 48271 % 2147483647,_,.fz (.int k),.fz (.int (top+k / wide)),.fz (.int (left+k % wide)),u12,u13,rfl,hL'⟩ (e.trans ?_)
   rw [Adp]
   have e1:=O2 (ps:=sgL L) (q:=(top+k / wide,left+k % wide)) (c:=sg0 lies) (by rw [Hq];exact hp)
   have e2:=O2 (ps:=sgL L++[((top+k / wide,left+k % wide),sg0 lies)]) (q:=Gr (top+k / wide,left+k % wide,lies)) (c:=sg1 lies) (by
    rw [List.map_append,Hq]
    simp only [List.map_cons,List.map_nil,List.mem_append,List.mem_singleton,not_or]
    exact⟨hn,hne⟩)
   rw [show dput (sD (sgL L)) [top+k / wide,left+k % wide] (.str ⟨#[sg0 lies]⟩)=_ from e1]
   rw [hm] at e2
   rw [show dput (sD (sgL L++[((top+k / wide,left+k % wide),sg0 lies)])) [top+k / wide+lies,left+k % wide+1-lies] (.str ⟨#[sg1 lies]⟩)=_ from e2,List.append_assoc]
   rw [show Gr (top+k / wide,left+k % wide,lies)=_ from hm]
   rfl) [s0,s1,.fz (.int high),.fz (.int wide),.fz (.int top),.fz (.int left),.fz (.int nb),.ow (.dic []),.un,.un,.un,.un,.un] ⟨nb,[],_,_,_,_,_,rfl,⟨by simp,by simp,by simp,by simp [cover],by simp⟩⟩
 exact⟨nb',L,t9,t10,t11,t12,t13,e1,hL.drawn hw hh ht hl h1 h2⟩
theorem S9 (ns:List Int):∃ (F:List Sq) (L:List Fl),Bu [.scr ns]=.ok (.dic (sD (sgL L)))/\IsFloor F/\Lay F L/\L.length<=32:=by
 unfold Bu K1
 have c0:Af [.scr ns,.int 0]=_:=P0 ns 0
 have c1:Af [.scr ns,.int 1]=_:=P0 ns 1
 generalize ns.getD 0 0=head at c0
 generalize ns.getD 1 0=num at c1
 generalize hh:1+head % 8=high
 generalize hw:1+head / 8 % 8=wide
 have bh:1<=high/\high<=8:=by omega
 have bw:1<=wide/\wide<=8:=by omega
 generalize ht:head / 64 % (9-high)=top
 generalize hl:head / 512 % (9-wide)=left
 have bt:0<=top/\top<9-high:=by rw [<-ht];exact⟨Int.emod_nonneg _ (by omega),Int.emod_lt_of_pos _ (by omega)⟩
 have bl:0<=left/\left<9-wide:=by rw [<-hl];exact⟨Int.emod_nonneg _ (by omega),Int.emod_lt_of_pos _ (by omega)⟩
 have hn:high * wide<=64:=by
  have h1:high * wide<=8 * wide:=Int.mul_le_mul_of_nonneg_right bh.2 (by omega)
  omega
 have hn0:0<=high * wide:=Int.mul_nonneg (by omega) (by omega)
 generalize hnum:1+num % 2147483646=number
 obtain⟨nb',L,t9,t10,t11,t12,t13,e1,hD⟩:=Wk (.fz (.scr ns)) (.fz (.int head)) high wide top left number (by omega) (by omega) (by omega) (by omega) bt.1 bl.1 (by omega) (by omega)
 refine⟨_,L,?_,hD.fl,hD.lay,?_⟩
 ·have hm:high.natAbs<9223372036854775808:=by omega
  have hmm:(high * wide).natAbs<1000000:=by omega
  have h9:high<9:=by omega
  have h9':wide<9:=by omega
  simp [c0,c1,hh,hw,ht,hl,hnum,hm,h9,h9',hmm,e1,Amo]
 ·have h1:=hD.len
  have h2:=hD.lay.cov.length_eq
  rw [Xj] at h2
  omega
theorem Ahv {Q:List Nat}(lQ:Q.length<=1000) (c:Nat):Cg (.str ⟨Q.toArray⟩) (.str ⟨#[c]⟩)=some (.str ⟨(Q++[c]).toArray⟩):=by
 rw [Ada (by show Q.toArray.size+1<=_;simp;omega)]
 congr 2
 exact Zv (by rw [Vv])
theorem Zo {L:List Fl}{r c:Nat}{Q:List Nat}{x1:Sl}(lQ:Q.length<=1000):Ef [.fz (.dic (sD (sgL L))),x1,.fz (.int (r:Int)),.fz (.str ⟨Q.toArray⟩),.fz (.int (c:Int))]=.ok (.nx [.fz (.dic (sD (sgL L))),x1,.fz (.int (r:Int)),.fz (.str ⟨(Q++[gr L r c]).toArray⟩),.fz (.int (c:Int))]):=by
 have hg:gr L r c=(look (sgL L) (up (r,c))).getD 46:=rfl
 have hget:Mh (sD (sgL L)) [(r:Int),(c:Int)]=(look (sgL L) (up (r,c))).map λ c=>D.str ⟨#[c]⟩:=Vd (up (r,c)) (sgL L)
 have tin:Bh (e2 Ae5 (G6 (Ac (vF 2) (Ac (vF 4) (Bf)))) (vE 0)) [.fz (.dic (sD (sgL L))),x1,.fz (.int (r:Int)),.fz (.str ⟨Q.toArray⟩),.fz (.int (c:Int))]=.ok (look (sgL L) (up (r,c))).isSome:=by
  refine Dl ?_
  show R.ok (D.bl (Mh (sD (sgL L)) [(r:Int),(c:Int)]).isSome)=_
  rw [hget,Option.isSome_map]
 unfold Ef
 rw [Ig,tin,hg]
 cases hl:look (sgL L) (up (r,c)) with
 | none =>
  have:=Ahv lQ 46
  rw [<-s46] at this
  refine (Cz (i:=3) (d:=.str ⟨(Q++[46]).toArray⟩) ?_).trans rfl
  show ofO (Cg (.str ⟨Q.toArray⟩) (.str "."))=_
  rw [this];rfl
 | some d =>
  refine (Cz (i:=3) (d:=.str ⟨(Q++[d]).toArray⟩) ?_).trans rfl
  show (ofO (Mh (sD (sgL L)) [(r:Int),(c:Int)]) >>= λ y=>ofO (Cg (.str ⟨Q.toArray⟩) y))=_
  rw [hget,hl]
  show ofO (Cg (.str ⟨Q.toArray⟩) (.str ⟨#[d]⟩))=_
  rw [Ahv lQ];rfl
theorem Tn (L:List Fl):Bs [.dic (sD (sgL L))]=.ok (dLn (lns (gr L))):=by
 obtain⟨E1,q1,t2,t3,t4,rfl⟩:=Dv (set:=gN 2) (b:=Ec) (λ (r:Nat)=>D.int (r:Int)) (λ (pre:List Nat) E=>∃ t2 t3 t4,E=[.fz (.dic (sD (sgL L))),.ow (dLn (pre.map (Fv (gr L)))),t2,t3,t4]) (List.range 8) (by
  rintro pre r post epre E ⟨t2,t3,t4,rfl⟩
  refine⟨_,rfl,?_⟩
  have lp:pre.length<=8:=by have:=congrArg List.length epre;simp at this;omega
  obtain⟨E2,q2,u4,rfl⟩:=Dv (set:=gN 4) (b:=Ef) (λ (c:Nat)=>D.int (c:Int)) (λ (cp:List Nat) E=>∃ u4,E=[.fz (.dic (sD (sgL L))),.ow (dLn (pre.map (Fv (gr L)))),.fz (.int (r:Int)),.fz (.str ⟨(cp.map (gr L r)).toArray⟩),u4]) (List.range 8) (by
   rintro cp c cpost ec E ⟨u4,rfl⟩
   refine⟨_,rfl,?_⟩
   have lc:cp.length<=8:=by have:=congrArg List.length ec;simp at this;omega
   refine Ek (E:=[.fz (.dic (sD (sgL L))),.ow (dLn (pre.map (Fv (gr L)))),.fz (.int (r:Int)),.fz (.str ⟨((cp++[c]).map (gr L r)).toArray⟩),.fz (.int (c:Int))]) ⟨_,rfl⟩ ?_
   rw [List.map_append]
   exact Zo (by rw [List.length_map];omega)) [.fz (.dic (sD (sgL L))),.ow (dLn (pre.map (Fv (gr L)))),.fz (.int (r:Int)),.fz (.str ⟨(([]:List Nat).map (gr L r)).toArray⟩),t4] ⟨_,rfl⟩
  refine Ek (E:=[.fz (.dic (sD (sgL L))),.ow (dLn ((pre++[r]).map (Fv (gr L)))),.fz (.int (r:Int)),.fz (.str ⟨(Fv (gr L) r).toArray⟩),u4]) ⟨_,_,_,rfl⟩ ?_
  show Ec [.fz (.dic (sD (sgL L))),.ow (dLn (pre.map (Fv (gr L)))),.fz (.int (r:Int)),t3,t4]=_
  unfold Ec
  refine Ao (E':=[.fz (.dic (sD (sgL L))),.ow (dLn (pre.map (Fv (gr L)))),.fz (.int (r:Int)),.fz (.str ⟨(([]:List Nat).map (gr L r)).toArray⟩),t4]) (Cz (d:=.str ⟨(([]:List Nat).map (gr L r)).toArray⟩) (by show R.ok (D.str "")=_;rw [show ("":Str)=⟨#[]⟩ by decide +kernel];rfl)) ?_
  refine Ao (E':=[.fz (.dic (sD (sgL L))),.ow (dLn (pre.map (Fv (gr L)))),.fz (.int (r:Int)),.fz (.str ⟨(Fv (gr L) r).toArray⟩),u4]) ?_ ?_
  ·rw [Jr,show iR1 (kE (.int 8)) [.fz (.dic (sD (sgL L))),.ow (dLn (pre.map (Fv (gr L)))),.fz (.int (r:Int)),.fz (.str ⟨(([]:List Nat).map (gr L r)).toArray⟩),t4]=.ok ((List.range 8).map λ (c:Nat)=>D.int (c:Int)) from rfl]
   exact q2
  ·have e:dLn ((pre++[r]).map (Fv (gr L)))=.lst ((pre.map (Fv (gr L))).map (λ l=>D.str ⟨l.toArray⟩)++[D.str ⟨(Fv (gr L) r).toArray⟩]):=by
    unfold dLn
    simp
   rw [e]
   simp [dLn,show pre.length<1000000 by omega]) [.fz (.dic (sD (sgL L))),.ow (dLn []),.un,.un,.un] ⟨_,_,_,rfl⟩
 have key:Fx [.fz (.dic (sD (sgL L))),.un,.un,.un,.un]=.ok (.rt (dLn (lns (gr L)))):=by
  unfold Fx
  refine Ao (E':=[.fz (.dic (sD (sgL L))),.ow (dLn []),.un,.un,.un]) rfl ?_
  refine Ao (E':=[.fz (.dic (sD (sgL L))),.ow (dLn (lns (gr L))),t2,t3,t4]) ?_ rfl
  rw [Jr,show iR1 (kE (.int 8)) [.fz (.dic (sD (sgL L))),.ow (dLn []),.un,.un,.un]=.ok ((List.range 8).map λ (c:Nat)=>D.int (c:Int)) from rfl]
  exact q1
 show ended (Fx [.fz (.dic (sD (sgL L))),.un,.un,.un,.un])=_
 rw [key];rfl
theorem Tz:∀ (l:List Nat) (n:Nat),(List.range n).filterMap (λ i=>l[i]?)=l.take n
 | l,0=>rfl
 | l,n+1=>by
  rw [List.range_succ,List.filterMap_append,Tz l n,List.take_succ]
  congr 1
theorem Aea (l:List Nat) (n m:Nat) (h:l.length=n+m):((List.range m).map λ k=>n+k).filterMap (λ i=>l[i]?)=l.drop n:=by
 rw [List.filterMap_map]
 have:((λ i=>l[i]?) ∘ λ k=>n+k)=λ k=>(l.drop n)[k]?:=by
  funext k
  simp
 rw [this,Tz]
 exact List.take_of_length_le (by rw [List.length_drop];omega)
theorem Ams:∀ c,c<9->Builtin.Str.strSliceIndices none (some (c:Nat)) 1 8=List.range c:=by decide +kernel
theorem Afn:∀ c,c<9->Builtin.Str.strSliceIndices (some (c:Nat)) none 1 8=(List.range (8-c)).map λ k=>c+k:=by decide +kernel
theorem Abo {l:List Nat}(hl:l.length=8) {c:Nat}(hc:c<=8):Txt.slice ⟨l.toArray⟩ none (some (c:Int))=⟨(l.take c).toArray⟩:=by
 have hs:(⟨l.toArray⟩:Str).length=8:=by show l.toArray.size=8;simpa using hl
 unfold Txt.slice
 rw [hs,Ams c (by omega)]
 split
 ·rename_i h
  have:c=8:=by simpa using h
  rw [List.take_of_length_le (by omega)]
 ·congr 2
  rw [<-Tz]
  simp
theorem Wb {l:List Nat}(hl:l.length=8) {c:Nat}(hc:c<=8):Txt.slice ⟨l.toArray⟩ (some (c:Int)) none=⟨(l.drop c).toArray⟩:=by
 have hs:(⟨l.toArray⟩:Str).length=8:=by show l.toArray.size=8;simpa using hl
 unfold Txt.slice
 rw [hs,Afn c (by omega)]
 split
 ·rename_i h
  have:c=0:=by simp at h;omega
  subst this
  rfl
 ·congr 2
  rw [<-Aea l c (8-c) (by omega)]
  simp
theorem Aqk {α:Type}{xs:List α}{n:Nat}(h:n<=xs.length):cutD xs none (some (n:Int))=xs.take n:=by
 unfold cutD
 rw [HT.sIx_none,HT.sIx_nat,Nat.min_eq_left h]
 simp
theorem Arq {α:Type}{xs:List α}{n:Nat}(h:n<=xs.length):cutD xs (some (n:Int)) none=xs.drop n:=by
 unfold cutD
 rw [HT.sIx_none,HT.sIx_nat,Nat.min_eq_left h]
 exact List.take_of_length_le (by rw [List.length_drop];omega)
noncomputable def dN (l:List Nat):D:=.str ⟨l.toArray⟩
theorem Amm {a b:List Nat}(ha:a.length<=100) (hb:b.length<=100):Cg (dN a) (dN b)=some (dN (a++b)):=by
 unfold dN
 rw [Ada (by show a.toArray.size+b.toArray.size<=_;simp;omega)]
 congr 2
 exact Zv (by rw [Vv])
theorem Aak {a b:List (List Nat)}(ha:a.length<=100) (hb:b.length<=100):Cg (dLn a) (dLn b)=some (dLn (a++b)):=by
 unfold dLn
 rw [Aj2,if_pos (by rw [List.length_map,List.length_map];omega),List.map_append]
theorem sT {l:List Nat}(hl:l.length=8) {c:Nat}(hc:c<=8):Vl (dN l) none (some (c:Int))=some (dN (l.take c)):=by
 show (if (⟨l.toArray⟩:Str).length<=1000000 then some (D.str (Txt.slice ⟨l.toArray⟩ none (some (c:Int)))) else none)=_
 rw [if_pos (by show l.toArray.size<=_;simp;omega),Abo hl hc];rfl
theorem sF {l:List Nat}(hl:l.length=8) {c:Nat}(hc:c<=8):Vl (dN l) (some (c:Int)) none=some (dN (l.drop c)):=by
 show (if (⟨l.toArray⟩:Str).length<=1000000 then some (D.str (Txt.slice ⟨l.toArray⟩ (some (c:Int)) none)) else none)=_
 rw [if_pos (by show l.toArray.size<=_;simp;omega),Wb hl hc];rfl
theorem lT {ls:List (List Nat)}{n:Nat}(h:n<=ls.length):fSl (dLn ls) none (some (n:Int))=some (dLn (ls.take n)):=by
 show some (D.lst (cutD (ls.map λ l=>D.str ⟨l.toArray⟩) none (some (n:Int))))=_
 rw [Aqk (by rw [List.length_map];exact h),<-List.map_take];rfl
theorem lF {ls:List (List Nat)}{n:Nat}(h:n<=ls.length):fSl (dLn ls) (some (n:Int)) none=some (dLn (ls.drop n)):=by
 show some (D.lst (cutD (ls.map λ l=>D.str ⟨l.toArray⟩) (some (n:Int)) none))=_
 rw [Arq (by rw [List.length_map];exact h),<-List.map_drop];rfl
theorem ixL {ls:List (List Nat)}{n:Nat}(h:n<ls.length):fIx (dLn ls) (.int (n:Int))=some (dN ls[n]):=by
 unfold dLn
 rw [Ahe]
 refine Fb ?_
 rw [List.getElem?_map]
 simp [h,dN]
theorem ixS {l:List Nat}(hl:l.length<=100) {n:Nat}(h:n<l.length):fIx (dN l) (.int (n:Int))=some (.str ⟨#[l[n]]⟩):=by
 show (if (⟨l.toArray⟩:Str).length<=1000000 then (atI (⟨l.toArray⟩:Str).cps.toList (n:Int)).map λ c=>D.str ⟨#[c]⟩ else none)=_
 rw [if_pos (by show l.toArray.size<=_;simp;omega),Fb (x:=l[n]) (by simp [h])]
 rfl
theorem Ak5 (cell:Int):∃ d:Nat,d≠10/\e2 fIx (kE (.str ".<>^vV-x")) (e2 Kd (kE (.int cell)) (kE (.int 8))) []=.ok (dN [d]):=by
 have h0:=Int.emod_nonneg cell (show (8:Int)≠0 by decide)
 have h8:=Int.emod_lt_of_pos cell (show (0:Int)<8 by decide)
 obtain⟨n,hn⟩:=Int.eq_ofNat_of_zero_le h0
 have hn8:n<8:=by omega
 have hs:(".<>^vV-x":Str)=⟨[46,60,62,94,118,86,45,120].toArray⟩:=by decide +kernel
 refine⟨[46,60,62,94,118,86,45,120][n],?_,?_⟩
 ·have:∀ m (h:m<8),([46,60,62,94,118,86,45,120]:List Nat)[m]≠10:=by decide
  exact this n hn8
 ·show (R.ok (D.int (cell % 8)) >>= λ y=>ofO (fIx (.str ".<>^vV-x") y))=_
  simp only [R.ok_bind]
  rw [hn,hs]
  have:=ixS (l:=[46,60,62,94,118,86,45,120]) (by decide) (n:=n) hn8
  unfold dN at this
  rw [this];rfl
theorem N5 {k lies:Int}{m:EX}{E:Ev}(h:lies≠k) (hE:vE 1 E=.ok (.int lies)):xIf (Bh (e2 fEq (vE 1) (kE (.int k)))) m Ga E=.ok (.nx E):=by
 refine Qk (Dl ?_)
 rw [Aml,hE]
 simp [h]
theorem V3 {k lies:Int}{m:EX}{E:Ev}(h:lies=k) (hE:vE 1 E=.ok (.int lies)):xIf (Bh (e2 fEq (vE 1) (kE (.int k)))) m Ga E=m E:=by
 have:Bh (e2 fEq (vE 1) (kE (.int k))) E=.ok true:=Dl (by rw [Aml,hE];simp [h])
 rw [Ig,this];rfl
noncomputable def Agx (lies:Int) (ls:List (List Nat)) (r:Nat):List (List Nat):=if lies=4 then ls.take r++ls.drop (r+1) else if lies=5 then ls.take (r+1)++ls.drop r else if lies=6 then ls++[[]] else ls
noncomputable def Vj (lies:Int) (l:List Nat) (c d:Nat):List Nat:=if lies=1 then l.take c++[d]++l.drop (c+1) else if lies=2 then l.take c++l.drop (c+1) else if lies=3 then l.take c++[d]++l.drop c else l
theorem Fw {ls:List (List Nat)}{l':List Nat}{lies:Int}{r:Nat}{x3 x4 x6:Sl}(hl:ls.length=8) (hr:r<8) :
  (Bg (Es 0 (e2 Cg (e2 Cg (eSl (vE 0) (Ei) (Eh (vE 2))) (K6 (Ac (vF 5) (Bf)))) (eSl (vE 0) (Eh (e2 Cg (vE 2) (kE (.int 1)))) (Ei)))) (Bg (xIf (Bh (e2 fEq (vE 1) (kE (.int 4)))) (Ey (e2 Cg (eSl (vE 0) (Ei) (Eh (vE 2))) (eSl (vE 0) (Eh (e2 Cg (vE 2) (kE (.int 1)))) (Ei)))) (Ga)) (Bg (xIf (Bh (e2 fEq (vE 1) (kE (.int 5)))) (Ey (e2 Cg (eSl (vE 0) (Ei) (Eh (e2 Cg (vE 2) (kE (.int 1))))) (eSl (vE 0) (Eh (vE 2)) (Ei)))) (Ga)) (Bg (xIf (Bh (e2 fEq (vE 1) (kE (.int 6)))) (Ey (e2 Cg (vE 0) (K6 (Ac (kE (.str "")) (Bf))))) (Ga)) (Ey (vF 0)))))) [.fz (dLn ls),.fz (.int lies),.fz (.int (r:Int)),x3,x4,.fz (dN l'),x6]=.ok (.rt (dLn (Agx lies (ls.take r++[l']++ls.drop (r+1)) r))):=by
 have hc:((r:Int)+1)=((r+1:Nat):Int):=by omega
 generalize hM:ls.take r++[l']++ls.drop (r+1)=M
 have lM:M.length=8:=by rw [<-hM];simp;omega
 refine Ao (E':=[.fz (dLn M),.fz (.int lies),.fz (.int (r:Int)),x3,x4,.fz (dN l'),x6]) (Cz (d:=dLn M) ?_) ?_
 ·show (((ofO (fSl (dLn ls) none (some (r:Int)))) >>= λ x=>R.ok (dLn [l']) >>= λ y=>ofO (Cg x y)) >>= λ x=>ofO (fSl (dLn ls) (some ((r:Int)+1)) none) >>= λ y=>ofO (Cg x y))=_
  rw [hc,lT (by omega),lF (by omega)]
  show ((ofO (Cg (dLn (ls.take r)) (dLn [l']))) >>= λ x=>ofO (Cg x (dLn (ls.drop (r+1)))))=_
  rw [Aak (by simp;omega) (by simp)]
  show ofO (Cg (dLn (ls.take r++[l'])) (dLn (ls.drop (r+1))))=_
  rw [Aak (by simp;omega) (by simp;omega),hM];rfl
 ·unfold Agx
  by_cases h4:lies=4
  ·rw [if_pos h4]
   refine Gj ((V3 h4 rfl).trans ?_)
   show ((ofO (fSl (dLn M) none (some (r:Int))) >>= λ x=>ofO (fSl (dLn M) (some ((r:Int)+1)) none) >>= λ y=>ofO (Cg x y)) >>= λ d=>R.ok (Out.rt d))=_
   rw [hc,lT (by omega),lF (by omega)]
   show (ofO (Cg (dLn (M.take r)) (dLn (M.drop (r+1)))) >>= λ d=>R.ok (Out.rt d))=_
   rw [Aak (by simp;omega) (by simp;omega)];rfl
  rw [if_neg h4]
  refine Ao (N5 h4 rfl) ?_
  by_cases h5:lies=5
  ·rw [if_pos h5]
   refine Gj ((V3 h5 rfl).trans ?_)
   show ((ofO (fSl (dLn M) none (some ((r:Int)+1))) >>= λ x=>ofO (fSl (dLn M) (some (r:Int)) none) >>= λ y=>ofO (Cg x y)) >>= λ d=>R.ok (Out.rt d))=_
   rw [hc,lT (by omega),lF (by omega)]
   show (ofO (Cg (dLn (M.take (r+1))) (dLn (M.drop r))) >>= λ d=>R.ok (Out.rt d))=_
   rw [Aak (by simp;omega) (by simp;omega)];rfl
  rw [if_neg h5]
  refine Ao (N5 h5 rfl) ?_
  by_cases h6:lies=6
  ·rw [if_pos h6]
   refine Gj ((V3 h6 rfl).trans ?_)
   show (ofO (Cg (dLn M) (.lst [.str ""])) >>= λ d=>R.ok (Out.rt d))=_
   rw [show (D.lst [.str ""])=dLn [[]] by rw [show ("":Str)=⟨#[]⟩ by decide +kernel];rfl,Aak (by omega) (by simp)];rfl
  rw [if_neg h6]
  exact Ao (N5 h6 rfl) rfl
theorem Aav {ls:List (List Nat)}(hl:ls.length=8) (h8:∀ l∈ls,l.length=8) {lies cell:Int}{r c:Nat}(hr:r<8) (hc:c<8):∃ d:Nat,d≠10/\Bw [dLn ls,.int lies,.int (r:Int),.int (c:Int),.int cell]=.ok (dLn (Agx lies (ls.take r++[Vj lies (ls[r]'(by omega)) c d]++ls.drop (r+1)) r)):=by
 obtain⟨d,hd,hs⟩:=Ak5 cell
 refine⟨d,hd,?_⟩
 generalize hL:ls[r]'(by omega)=l
 have ll:l.length=8:=by rw [<-hL];exact h8 _ (List.getElem_mem _)
 have hc1:((c:Int)+1)=((c+1:Nat):Int):=by omega
 have key:Eu [.fz (dLn ls),.fz (.int lies),.fz (.int (r:Int)),.fz (.int (c:Int)),.fz (.int cell),.un,.un]=.ok (.rt (dLn (Agx lies (ls.take r++[Vj lies l c d]++ls.drop (r+1)) r))):=by
  unfold Eu
  refine Ao (E':=[.fz (dLn ls),.fz (.int lies),.fz (.int (r:Int)),.fz (.int (c:Int)),.fz (.int cell),.fz (dN l),.un]) (Cz (d:=dN l) (by show ofO (fIx (dLn ls) (.int (r:Int)))=_;rw [ixL (by omega),hL];rfl)) ?_
  refine Ao (E':=[.fz (dLn ls),.fz (.int lies),.fz (.int (r:Int)),.fz (.int (c:Int)),.fz (.int cell),.fz (dN l),.fz (dN [d])]) (Cz (d:=dN [d]) hs) ?_
  have at':∀ x:List Nat,x.length<=50->∀ y:List Nat,y.length<=50->ofO (Cg (dN x) (dN y))=.ok (dN (x++y)):=λ x hx y hy=>by rw [Amm (by omega) (by omega)];rfl
  have tT:ofO (Vl (dN l) none (some (c:Int)))=.ok (dN (l.take c)):=by rw [sT ll (by omega)];rfl
  have tF:ofO (Vl (dN l) (some ((c:Int)+1)) none)=.ok (dN (l.drop (c+1))):=by rw [hc1,sF ll (by omega)];rfl
  have tF0:ofO (Vl (dN l) (some (c:Int)) none)=.ok (dN (l.drop c)):=by rw [sF ll (by omega)];rfl
  have l1:(l.take c).length<=20:=by simp;omega
  have l2:(l.drop (c+1)).length<=20:=by simp;omega
  have l3:(l.drop c).length<=20:=by simp;omega
  unfold Vj
  by_cases h1:lies=1
  ·rw [if_pos h1]
   refine Ao (E':=[.fz (dLn ls),.fz (.int lies),.fz (.int (r:Int)),.fz (.int (c:Int)),.fz (.int cell),.fz (dN (l.take c++[d]++l.drop (c+1))),.fz (dN [d])]) ((V3 h1 rfl).trans (Cz (d:=dN (l.take c++[d]++l.drop (c+1))) ?_)) ?_
   ·show (((ofO (Vl (dN l) none (some (c:Int)))) >>= λ x=>ofO (Cg x (dN [d]))) >>= λ x=>ofO (Vl (dN l) (some ((c:Int)+1)) none) >>= λ y=>ofO (Cg x y))=_
    rw [tT,tF]
    simp only [R.ok_bind]
    rw [at' _ (by omega) _ (by simp)]
    simp only [R.ok_bind]
    exact at' _ (by simp at l1 ⊢;omega) _ (by omega)
   refine Ao (N5 (by omega) rfl) (Ao (N5 (by omega) rfl) (Fw hl hr))
  rw [if_neg h1]
  refine Ao (N5 h1 rfl) ?_
  by_cases h2:lies=2
  ·rw [if_pos h2]
   refine Ao (E':=[.fz (dLn ls),.fz (.int lies),.fz (.int (r:Int)),.fz (.int (c:Int)),.fz (.int cell),.fz (dN (l.take c++l.drop (c+1))),.fz (dN [d])]) ((V3 h2 rfl).trans (Cz (d:=dN (l.take c++l.drop (c+1))) ?_)) ?_
   ·show ((ofO (Vl (dN l) none (some (c:Int)))) >>= λ x=>ofO (Vl (dN l) (some ((c:Int)+1)) none) >>= λ y=>ofO (Cg x y))=_
    rw [tT,tF]
    simp only [R.ok_bind]
    exact at' _ (by omega) _ (by omega)
   exact Ao (N5 (by omega) rfl) (Fw hl hr)
  rw [if_neg h2]
  refine Ao (N5 h2 rfl) ?_
  by_cases h3:lies=3
  ·rw [if_pos h3]
   refine Ao (E':=[.fz (dLn ls),.fz (.int lies),.fz (.int (r:Int)),.fz (.int (c:Int)),.fz (.int cell),.fz (dN (l.take c++[d]++l.drop c)),.fz (dN [d])]) ((V3 h3 rfl).trans (Cz (d:=dN (l.take c++[d]++l.drop c)) ?_)) (Fw hl hr)
   show (((ofO (Vl (dN l) none (some (c:Int)))) >>= λ x=>ofO (Cg x (dN [d]))) >>= λ x=>ofO (Vl (dN l) (some (c:Int)) none) >>= λ y=>ofO (Cg x y))=_
   rw [tT,tF0]
   simp only [R.ok_bind]
   rw [at' _ (by omega) _ (by simp)]
   simp only [R.ok_bind]
   exact at' _ (by simp at l1 ⊢;omega) _ (by omega)
  rw [if_neg h3]
  exact Ao (N5 h3 rfl) (Fw hl hr)
 show ended (Eu [.fz (dLn ls),.fz (.int lies),.fz (.int (r:Int)),.fz (.int (c:Int)),.fz (.int cell),.un,.un])=_
 rw [key];rfl
theorem Wz {α:Type}(f:Nat->α) {n r:Nat}(x:α) (h:r<n):((List.range n).map f).take r++[x]++((List.range n).map f).drop (r+1)=(List.range n).map λ a=>if a=r then x else f a:=by
 refine List.ext_getElem (by simp;omega) λ i h1 h2=>?_
 have hi:i<n:=by simpa using h2
 rw [List.getElem_map,List.getElem_range]
 by_cases e1:i<r
 ·rw [if_neg (by omega),List.getElem_append_left (by simp;omega),List.getElem_append_left (by simp;omega)]
  simp
 ·by_cases e2:i=r
  ·subst e2
   rw [if_pos rfl,List.getElem_append_left (by simp;omega),List.getElem_append_right (by simp;omega)]
   simp
  ·rw [if_neg e2,List.getElem_append_right (by simp;omega)]
   simp only [List.getElem_drop,List.getElem_map,List.getElem_range]
   congr 1
   simp
   omega
theorem Ahr {g:Nat->Nat->Nat}(h:∀ r c,g r c≠10) (r:Nat):10∉Fv g r:=λ z=>by
 obtain⟨c,_,z⟩:=List.mem_map.mp z
 exact h r c z
theorem R6 (g:Nat->Nat->Nat) (r:Nat):(Fv g r).length=8:=by simp [Fv]
theorem Ag7 {l:List Nat}{lies:Int}{c d:Nat}(h:10∉l) (hl:l.length=8) (hc:c<8) (hd:d≠10):10∉Vj lies l c d/\(Vj lies l c d).length<=9/\((lies=2\/lies=3)->(Vj lies l c d).length≠8):=by
 have h1:∀ n,10∉l.take n:=λ n z=>h (List.mem_of_mem_take z)
 have h2:∀ n,10∉l.drop n:=λ n z=>h (List.mem_of_mem_drop z)
 have hd':¬ 10=d:=λ z=>hd z.symm
 unfold Vj
 by_cases e1:lies=1
 ·rw [if_pos e1]
  refine⟨by simp [h1,h2,hd'],by simp;omega,λ z=>by omega⟩
 rw [if_neg e1]
 by_cases e2:lies=2
 ·rw [if_pos e2]
  refine⟨by simp [h1,h2],by simp;omega,λ z=>by simp;omega⟩
 rw [if_neg e2]
 by_cases e3:lies=3
 ·rw [if_pos e3]
  refine⟨by simp [h1,h2,hd'],by simp;omega,λ z=>by simp;omega⟩
 rw [if_neg e3]
 exact⟨h,by omega,λ z=>by omega⟩
theorem Xe {g:Nat->Nat->Nat}(h10:∀ r c,g r c≠10) {lies:Int}{r c d:Nat}(hr:r<8) (hc:c<8) (hd:d≠10):∃ ls,Agx lies ((lns g).take r++[Vj lies (Fv g r) c d]++(lns g).drop (r+1)) r=ls/\Lns ls ∧
  (¬ Shape ls\/∃ g':Nat->Nat->Nat,ls=lns g'/\(∀ r c,g' r c≠10)/\∀ p∈sqs,p≠(r,c)->g' p.1 p.2=g p.1 p.2):=by
 refine⟨_,rfl,?_⟩
 obtain⟨a1,a2,a3⟩:=Ag7 (lies:=lies) (d:=d) (Ahr h10 r) (R6 g r) hc hd
 have e1:lies=1->Vj lies (Fv g r) c d=(Fv g r).take c++[d]++(Fv g r).drop (c+1):=λ z=>by unfold Vj;rw [if_pos z]
 have e0:lies≠1->lies≠2->lies≠3->Vj lies (Fv g r) c d=Fv g r:=λ z1 z2 z3=>by unfold Vj;rw [if_neg z1,if_neg z2,if_neg z3]
 generalize Vj lies (Fv g r) c d=l' at a1 a2 a3 e1 e0
 have lg:(lns g).length=8:=by simp [lns]
 have mg:∀ l∈lns g,10∉l/\l.length<=9:=(Jp h10).fr
 have eM:=Wz (Fv g) l' hr
 rw [show (List.range 8).map (Fv g)=lns g from rfl] at eM
 have mM:∀ l∈(lns g).take r++[l']++(lns g).drop (r+1),10∉l/\l.length<=9:=λ l hl=>by
  rcases List.mem_append.mp hl with hl|hl
  ·rcases List.mem_append.mp hl with hl|hl
   ·exact mg l (List.mem_of_mem_take hl)
   ·rw [List.mem_singleton.mp hl];exact⟨a1,a2⟩
  ·exact mg l (List.mem_of_mem_drop hl)
 have inM:l'∈(lns g).take r++[l']++(lns g).drop (r+1):=by simp
 have lM:((lns g).take r++[l']++(lns g).drop (r+1)).length=8:=by simp;omega
 generalize (lns g).take r++[l']++(lns g).drop (r+1)=M at eM mM inM lM ⊢
 unfold Agx
 by_cases h4:lies=4
 ·rw [if_pos h4]
  have ll:(M.take r++M.drop (r+1)).length=7:=by simp;omega
  refine⟨⟨λ z=>by rw [z] at ll;simp at ll,by omega,λ l hl=>?_⟩,.inl λ z=>by have:=z.1;omega⟩
  rcases List.mem_append.mp hl with hl|hl
  ·exact mM l (List.mem_of_mem_take hl)
  ·exact mM l (List.mem_of_mem_drop hl)
 rw [if_neg h4]
 by_cases h5:lies=5
 ·rw [if_pos h5]
  have ll:(M.take (r+1)++M.drop r).length=9:=by simp;omega
  refine⟨⟨λ z=>by rw [z] at ll;simp at ll,by omega,λ l hl=>?_⟩,.inl λ z=>by have:=z.1;omega⟩
  rcases List.mem_append.mp hl with hl|hl
  ·exact mM l (List.mem_of_mem_take hl)
  ·exact mM l (List.mem_of_mem_drop hl)
 rw [if_neg h5]
 by_cases h6:lies=6
 ·rw [if_pos h6]
  have ll:(M++[[]]).length=9:=by simp;omega
  refine⟨⟨λ z=>by rw [z] at ll;simp at ll,by omega,λ l hl=>?_⟩,.inl λ z=>by have:=z.1;omega⟩
  rcases List.mem_append.mp hl with hl|hl
  ·exact mM l hl
  ·rw [List.mem_singleton.mp hl];exact⟨by simp,by simp⟩
 rw [if_neg h6]
 refine⟨⟨λ z=>by rw [z] at lM;simp at lM,by omega,mM⟩,?_⟩
 by_cases h23:lies=2\/lies=3
 ·exact .inl λ z=>a3 h23 (z.2 l' inM)
 right
 by_cases h1:lies=1
 ·refine⟨λ a b=>if a=r/\b=c then d else g a b,?_,λ a b=>?_,λ p _ hp=>?_⟩
  ·rw [eM]
   unfold lns
   refine List.map_congr_left λ a ha=>?_
   by_cases ea:a=r
   ·subst ea
    rw [if_pos rfl,e1 h1]
    unfold Fv
    rw [Wz (g a) d hc]
    refine List.map_congr_left λ b hb=>?_
    simp
   ·rw [if_neg ea]
    unfold Fv
    refine List.map_congr_left λ b hb=>?_
    show g a b=if a=r/\b=c then d else g a b
    rw [if_neg λ z=>ea z.1]
  ·show (if a=r/\b=c then d else g a b)≠10
   split
   ·exact hd
   ·exact h10 a b
  ·show (if p.1=r/\p.2=c then d else g p.1 p.2)=_
   rw [if_neg λ z=>hp (Prod.ext z.1 z.2)]
 ·refine⟨g,?_,h10,λ p _ _=>rfl⟩
  rw [eM,e0 h1 (λ z=>h23 (.inl z)) (λ z=>h23 (.inr z))]
  unfold lns
  refine List.map_congr_left λ a ha=>?_
  by_cases ea:a=r
  ·rw [if_pos ea,ea]
  ·rw [if_neg ea]
theorem Uu {α β:Type}{f g:α->Option β}:∀ {l:List α},(∀ x∈l,f x=g x)->l.filterMap f=l.filterMap g
 | [],_=>rfl
 | x :: r,h=>by rw [List.filterMap_cons,List.filterMap_cons,h x (by simp),Uu λ y hy=>h y (List.mem_cons_of_mem _ hy)]
theorem Aju:sqs.Nodup:=Nu.imp λ {a b} h z=>by subst z;exact Slt.irr h
theorem Abr {g g':Nat->Nat->Nat}{p:Nat × Nat}(hp:p∈sqs) (h:∀ q∈sqs,q≠p->g' q.1 q.2=g q.1 q.2):(flagsOf g' sqs).length<=(flagsOf g sqs).length+1:=by
 obtain⟨A,B,e⟩:=List.append_of_mem hp
 have nd:=Aju
 rw [e] at nd
 obtain⟨n1,n2,n3⟩:=List.nodup_append.mp nd
 rw [List.nodup_cons] at n2
 have same:∀ X:List (Nat × Nat),(∀ q∈X,q∈sqs/\q≠p)->X.filterMap (fl1 g')=X.filterMap (fl1 g):=λ X hX=>by
  refine Uu λ q hq=>?_
  unfold fl1
  rw [h q (hX q hq).1 (hX q hq).2]
 have eA:=same A λ q hq=>⟨by rw [e];exact List.mem_append_left _ hq,λ z=>n3 q hq p (by simp) z⟩
 have eB:=same B λ q hq=>⟨by rw [e];simp [hq],λ z=>n2.1 (z ▸ hq)⟩
 unfold flagsOf
 rw [e,List.filterMap_append,List.filterMap_append,eA,List.filterMap_cons,List.filterMap_cons,eB]
 cases fl1 g' p<;>cases fl1 g p<;>simp<;>omega
theorem Tq {set:D->Ev->Option Ev}{b:EX}{d x:D}{ds:List D}{E E1:Ev}(h1:set d E=some E1) (h2:b E1=.ok (.rt x)):forL set b (d :: ds) E=.ok (.rt x):=by
 show (match set d E with
  | none=>_
  | some E1=>_)=_
 rw [h1]
 show (b E1 >>= _)=_
 rw [h2]
 rfl
theorem Aca (g:Nat->Nat->Nat) {r c:Nat}(hr:r<8) (hc:c<8):(ofO (fIx (dLn (lns g)) (.int (r:Int))) >>= λ x=>ofO (fIx x (.int (c:Int))))=.ok (.str ⟨#[g r c]⟩):=by
 have hl:r<(lns g).length:=by simp [lns];exact hr
 have e:(lns g)[r]=Fv g r:=by simp [lns]
 rw [ixL hl,e]
 show ofO (fIx (dN (Fv g r)) (.int (c:Int)))=_
 rw [ixS (by rw [R6];decide) (n:=c) (by rw [R6];exact hc)]
 show R.ok (D.str _)=_
 congr 3
 simp [Fv]
noncomputable def kc (k:Nat):Nat:=[60,62,94,118].getD k 0
noncomputable def km (k:Nat):Nat:=[62,60,118,94].getD k 0
theorem Aoi {k:Nat}(hk:k<4):fIx (.str "<>^v") (.int (k:Int))=some (.str ⟨#[kc k]⟩):=by
 have hs:(D.str "<>^v")=dN [60,62,94,118]:=by unfold dN;rw [show ("<>^v":Str)=⟨[60,62,94,118].toArray⟩ by decide +kernel]
 rw [hs,ixS (l:=[60,62,94,118]) (by decide) (n:=k) hk]
 unfold kc
 rw [List.getD_eq_getElem?_getD,List.getElem?_eq_getElem (by exact hk)]
 rfl
theorem Aqy {k:Nat}(hk:k<4):fIx (.str "><v^") (.int (k:Int))=some (.str ⟨#[km k]⟩):=by
 have hs:(D.str "><v^")=dN [62,60,118,94]:=by unfold dN;rw [show ("><v^":Str)=⟨[62,60,118,94].toArray⟩ by decide +kernel]
 rw [hs,ixS (l:=[62,60,118,94]) (by decide) (n:=k) hk]
 unfold km
 rw [List.getD_eq_getElem?_getD,List.getElem?_eq_getElem (by exact hk)]
 rfl
noncomputable def oth (k:Nat) (r c:Int):Sq:=[(r,c+1),(r,c-1),(r+1,c),(r-1,c)].getD k (0,0)
theorem Ad5 {g:Nat->Nat->Nat}{k s:Nat}{x1 x2 x5:Sl}(hk:k<4) (h:s≠kc k):Bb [.fz (dLn (lns g)),x1,x2,.fz (.str ⟨#[s]⟩),.fz (.int (k:Int)),x5]=.ok (.nx [.fz (dLn (lns g)),x1,x2,.fz (.str ⟨#[s]⟩),.fz (.int (k:Int)),x5]):=by
 unfold Bb
 refine Qk (Dl ?_)
 show (ofO (fIx (.str "<>^v") (.int (k:Int))) >>= λ y=>ofO (fEq (.str ⟨#[s]⟩) y))=_
 rw [Aoi hk]
 show ofO (fEq (.str ⟨#[s]⟩) (.str ⟨#[kc k]⟩))=_
 rw [Rn,decide_eq_false λ z=>h (Jc.mp z)];rfl
theorem Aaw {g:Nat->Nat->Nat}{k r c:Nat}{x5:Sl}(hk:k<4) {b:Bool}
  (hb:(OnB (oth k r c)/\∃ q∈sqs,up q=oth k r c/\b=decide (g q.1 q.2=km k))\/(¬ OnB (oth k r c)/\b=false)) :
  Bb [.fz (dLn (lns g)),.fz (.int (r:Int)),.fz (.int (c:Int)),.fz (.str ⟨#[kc k]⟩),.fz (.int (k:Int)),x5]=.ok (.rt (.bl b)):=by
 unfold Bb
 have t:Bh (e2 fEq (vE 3) (e2 fIx (kE (.str "<>^v")) (vE 4))) [.fz (dLn (lns g)),.fz (.int (r:Int)),.fz (.int (c:Int)),.fz (.str ⟨#[kc k]⟩),.fz (.int (k:Int)),x5]=.ok true:=by
  refine Dl ?_
  show (ofO (fIx (.str "<>^v") (.int (k:Int))) >>= λ y=>ofO (fEq (.str ⟨#[kc k]⟩) y))=_
  rw [Aoi hk]
  show ofO (fEq (.str ⟨#[kc k]⟩) (.str ⟨#[kc k]⟩))=_
  rw [Rn,decide_eq_true rfl];rfl
 rw [Ig,t]
 have ho:ofO (atI [dS ((r:Int),(c:Int)+1),dS ((r:Int),(c:Int)-1),dS ((r:Int)+1,(c:Int)),dS ((r:Int)-1,(c:Int))] (k:Int))=.ok (dS (oth k r c)):=by
  match k,hk with
  | 0,_=>rfl
  | 1,_=>rfl
  | 2,_=>rfl
  | 3,_=>rfl
 show Bg _ _ _=_
 refine Ao (E':=[.fz (dLn (lns g)),.fz (.int (r:Int)),.fz (.int (c:Int)),.fz (.str ⟨#[kc k]⟩),.fz (.int (k:Int)),.fz (dS (oth k r c))]) (Cz ho) ?_
 generalize oth k r c=o at hb ⊢
 have tb:Ot (Agu (Bh (eCh fLe Adj (kE (.int 0)) (e2 fIx (vE 5) (kE (.int 0))) (kE (.int 8)))) (Bh (eCh fLe Adj (kE (.int 0)) (e2 fIx (vE 5) (kE (.int 1))) (kE (.int 8))))) [.fz (dLn (lns g)),.fz (.int (r:Int)),.fz (.int (c:Int)),.fz (.str ⟨#[kc k]⟩),.fz (.int (k:Int)),.fz (dS o)]=.ok (!(decide (OnB o))):=by
  simp
  by_cases h1:0<=o.1<;>by_cases h2:o.1<8<;>by_cases h3:0<=o.2<;>simp [h1,h2,h3,OnB]
 rcases hb with ⟨h1,q,hq,e1,e2⟩|⟨h1,e2⟩
 ·rw [decide_eq_true h1] at tb
  refine Ao (Qk tb) ?_
  obtain⟨q1,q2⟩:=Df.mp hq
  show ((ofO (fIx (dLn (lns g)) (.int o.1)) >>= λ x=>ofO (fIx x (.int o.2))) >>= λ x=>ofO (fIx (.str "><v^") (.int (k:Int))) >>= λ y=>ofO (fEq x y)) >>= (λ d=>R.ok (Out.rt d))=_
  rw [<-e1,show (up q).1=(q.1:Int) from rfl,show (up q).2=(q.2:Int) from rfl,Aca g q1 q2,Aqy hk]
  show ofO (fEq (.str ⟨#[g q.1 q.2]⟩) (.str ⟨#[km k]⟩)) >>= (λ d=>R.ok (Out.rt d))=_
  rw [Rn,e2]
  show R.ok (Out.rt (D.bl _))=_
  congr 3
  exact decide_eq_decide.2 Jc
 ·rw [decide_eq_false h1] at tb
  refine Gj ?_
  rw [Ig,tb,e2];rfl
theorem Aib (g:Nat->Nat->Nat) {r c:Nat}(hr:r<8) (hc:c<8):Cj [dLn (lns g),.int (r:Int),.int (c:Int)]=.ok (.bl (mOk g (r,c))):=by
 have onb:∀ (k:Nat) (a b:Nat),oth k r c=up (a,b)->a<8->b<8->OnB (oth k r c)/\∃ q∈sqs,up q=oth k r c/\decide (g a b=km k)=decide (g q.1 q.2=km k):=λ k a b e ha hb=>⟨by rw [e];unfold OnB up;simp only;omega,(a,b),Df.mpr ⟨ha,hb⟩,e.symm,rfl⟩
 have key:G8 [.fz (dLn (lns g)),.fz (.int (r:Int)),.fz (.int (c:Int)),.un,.un,.un]=.ok (.rt (.bl (mOk g (r,c)))):=by
  unfold G8
  refine Ao (E':=[.fz (dLn (lns g)),.fz (.int (r:Int)),.fz (.int (c:Int)),.fz (.str ⟨#[g r c]⟩),.un,.un]) (Cz (Aca g hr hc)) ?_
  have hi:Mg (iR1 (kE (.int 4))) (gN 4) Bb [.fz (dLn (lns g)),.fz (.int (r:Int)),.fz (.int (c:Int)),.fz (.str ⟨#[g r c]⟩),.un,.un]=forL (gN 4) Bb [.int ((0:Nat):Int),.int ((1:Nat):Int),.int ((2:Nat):Int),.int ((3:Nat):Int)] [.fz (dLn (lns g)),.fz (.int (r:Int)),.fz (.int (c:Int)),.fz (.str ⟨#[g r c]⟩),.un,.un]:=rfl
  have no:∀ (k:Nat) (ds:List D) (x4 x5:Sl),k<4->g r c≠kc k->forL (gN 4) Bb (.int (k:Int) :: ds) [.fz (dLn (lns g)),.fz (.int (r:Int)),.fz (.int (c:Int)),.fz (.str ⟨#[g r c]⟩),x4,x5]=forL (gN 4) Bb ds [.fz (dLn (lns g)),.fz (.int (r:Int)),.fz (.int (c:Int)),.fz (.str ⟨#[g r c]⟩),.fz (.int (k:Int)),x5]:=λ k ds x4 x5 hk h=>Ht (set:=gN 4) rfl (Ad5 hk h)
  have yes:∀ (k:Nat) (ds:List D) (x4 x5:Sl) (b:Bool),k<4->g r c=kc k->((OnB (oth k r c)/\∃ q∈sqs,up q=oth k r c/\b=decide (g q.1 q.2=km k))\/(¬ OnB (oth k r c)/\b=false))->forL (gN 4) Bb (.int (k:Int) :: ds) [.fz (dLn (lns g)),.fz (.int (r:Int)),.fz (.int (c:Int)),.fz (.str ⟨#[g r c]⟩),x4,x5]=.ok (.rt (.bl b)):=λ k ds x4 x5 b hk h hb=>by
   rw [h];exact Tq (set:=gN 4) rfl (Aaw hk hb)
  unfold mOk
  simp only
  by_cases h0:g r c=60
  ·rw [if_pos h0]
   refine Gj (hi.trans (yes 0 _ _ _ _ (by decide) h0 ?_))
   by_cases hb:c+1<8
   ·rw [decide_eq_true hb,Bool.true_and]
    exact .inl (onb 0 r (c+1) (by show ((r:Int),(c:Int)+1)=((r:Int),((c+1:Nat):Int));rw [show (c:Int)+1=((c+1:Nat):Int) by omega]) hr hb)
   ·rw [decide_eq_false hb]
    exact .inr ⟨λ z=>by have:(c:Int)+1<8:=z.2.2.2;omega,rfl⟩
  rw [if_neg h0]
  by_cases h1:g r c=62
  ·rw [if_pos h1]
   refine Gj (hi.trans ((no 0 _ _ _ (by decide) (by rw [h1];decide)).trans (yes 1 _ _ _ _ (by decide) h1 ?_)))
   by_cases hb:0<c
   ·rw [decide_eq_true hb,Bool.true_and]
    exact .inl (onb 1 r (c-1) (by show ((r:Int),(c:Int)-1)=((r:Int),((c-1:Nat):Int));rw [show (c:Int)-1=((c-1:Nat):Int) by omega]) hr (by omega))
   ·rw [decide_eq_false hb]
    exact .inr ⟨λ z=>by have:(0:Int)<=(c:Int)-1:=z.2.2.1;omega,rfl⟩
  rw [if_neg h1]
  by_cases h2:g r c=94
  ·rw [if_pos h2]
   refine Gj (hi.trans ((no 0 _ _ _ (by decide) (by rw [h2];decide)).trans ((no 1 _ _ _ (by decide) (by rw [h2];decide)).trans (yes 2 _ _ _ _ (by decide) h2 ?_))))
   by_cases hb:r+1<8
   ·rw [decide_eq_true hb,Bool.true_and]
    exact .inl (onb 2 (r+1) c (by show ((r:Int)+1,(c:Int))=(((r+1:Nat):Int),(c:Int));rw [show (r:Int)+1=((r+1:Nat):Int) by omega]) hb hc)
   ·rw [decide_eq_false hb]
    exact .inr ⟨λ z=>by have:(r:Int)+1<8:=z.2.1;omega,rfl⟩
  rw [if_neg h2]
  by_cases h3:g r c=118
  ·rw [if_pos h3]
   refine Gj (hi.trans ((no 0 _ _ _ (by decide) (by rw [h3];decide)).trans ((no 1 _ _ _ (by decide) (by rw [h3];decide)).trans ((no 2 _ _ _ (by decide) (by rw [h3];decide)).trans (yes 3 _ _ _ _ (by decide) h3 ?_)))))
   by_cases hb:0<r
   ·rw [decide_eq_true hb,Bool.true_and]
    exact .inl (onb 3 (r-1) c (by show ((r:Int)-1,(c:Int))=(((r-1:Nat):Int),(c:Int));rw [show (r:Int)-1=((r-1:Nat):Int) by omega]) (by omega) hc)
   ·rw [decide_eq_false hb]
    exact .inr ⟨λ z=>by have:(0:Int)<=(r:Int)-1:=z.1;omega,rfl⟩
  rw [if_neg h3]
  refine Ao (hi.trans ((no 0 _ _ _ (by decide) h0).trans ((no 1 _ _ _ (by decide) h1).trans ((no 2 _ _ _ (by decide) h2).trans (no 3 _ _ _ (by decide) h3))))) ?_
  show ofO (fEq (.str ⟨#[g r c]⟩) (.str ".")) >>= (λ d=>R.ok (Out.rt d))=_
  rw [s46,Rn]
  show R.ok (Out.rt (D.bl _))=_
  congr 3
  exact decide_eq_decide.2 Jc
 show ended (G8 [.fz (dLn (lns g)),.fz (.int (r:Int)),.fz (.int (c:Int)),.un,.un,.un])=_
 rw [key];rfl
theorem Mw {ls:List (List Nat)}(h:Lns ls) (x2 x3 x4:Sl):bOr (Bh (e2 fNe (e1 Hf (vE 0)) (kE (.int 8)))) (Bh (e2 fGt (e1 Hf (Fd [1] (gN 1) (iD (vF 0)) (Bh (e2 fNe (e1 Hf (vE 1)) (kE (.int 8)))) (vF 1))) (kE (.int 0)))) [.fz (dLn ls),.un,x2,x3,x4]=.ok (!(decide (Shape ls))):=by
 have t1:Bh (e2 fNe (e1 Hf (vE 0)) (kE (.int 8))) [.fz (dLn ls),.un,x2,x3,x4]=.ok (!(decide (ls.length=8))):=by
  refine Dl ?_
  show ofO (fNe (.int ((ls.map λ l=>D.str ⟨l.toArray⟩).length:Int)) (.int 8))=_
  rw [Aa6,List.length_map]
  show R.ok (D.bl _)=_
  congr 3
  exact decide_eq_decide.2 (by omega)
 have t2:Bh (e2 fGt (e1 Hf (Fd [1] (gN 1) (iD (vF 0)) (Bh (e2 fNe (e1 Hf (vE 1)) (kE (.int 8)))) (vF 1))) (kE (.int 0))) [.fz (dLn ls),.un,x2,x3,x4]=.ok (decide (0<(ls.filter λ l=>!(decide (l.length=8))).length)):=by
  refine Dl ?_
  rw [Aml,Aoc,R9,if_pos (show Aan [1] [.fz (dLn ls),.un,x2,x3,x4]=true from rfl),show iD (vF 0) [.fz (dLn ls),.un,x2,x3,x4]=.ok (ls.map dN) from rfl]
  simp only [R.ok_bind]
  rw [if_pos (by have:=h.len;rw [List.length_map];omega),J3 dN (λ l=>!(decide (l.length=8))) dN ls (λ l hl=>⟨_,rfl,by
   have h2:=(h.fr l hl).2
   have hln:(⟨l.toArray⟩:Str).length=l.length:=by show l.toArray.size=_;simp
   refine Dl ?_
   show (ofO (if (⟨l.toArray⟩:Str).length<=1000000 then some (D.int ((⟨l.toArray⟩:Str).length:Int)) else none) >>= λ x=>ofO (fNe x (.int 8)))=_
   rw [hln,if_pos (by omega)]
   show ofO (fNe (.int (l.length:Int)) (.int 8))=_
   rw [Aa6]
   show R.ok (D.bl _)=_
   congr 3
   exact decide_eq_decide.2 (by omega),λ _=>rfl⟩)]
  simp
 rw [Zd,t1]
 unfold Shape
 by_cases hl:ls.length=8
 ·simp only [hl,decide_true,Bool.not_true,R.ok_bind,Bool.false_eq_true,if_false,true_and]
  rw [t2]
  congr 1
  by_cases ha:∀ l∈ls,l.length=8
  ·rw [decide_eq_true ha,List.filter_eq_nil_iff.mpr λ l hl'=>by simp [ha l hl']]
   rfl
  ·rw [decide_eq_false ha]
   obtain⟨l,hl'⟩:=Classical.not_forall.mp ha
   obtain⟨h1,h2⟩:=Classical.not_imp.mp hl'
   exact decide_eq_true (List.length_pos_of_mem (List.mem_filter.mpr ⟨h1,by simp [h2]⟩))
 ·simp [hl]
theorem Agr {ls:List (List Nat)}(h:Lns ls) (hs:¬ Shape ls):Ba [dLn ls]=.ok .non:=by
 have key:Dg [.fz (dLn ls),.un,.un,.un,.un]=.ok (.rt .non):=by
  unfold Dg
  refine Gj ?_
  rw [Ig,Mw h,decide_eq_false hs];rfl
 show ended (Dg [.fz (dLn ls),.un,.un,.un,.un])=_
 rw [key];rfl
theorem Adw (g:Nat->Nat->Nat) (a b:List (Nat × Nat)):floorOf g (a++b)=floorOf g a++floorOf g b:=by
 unfold floorOf
 rw [List.filter_append,List.map_append]
theorem Wj (g:Nat->Nat->Nat) {r c:Nat}(hr:r<8) (hc:c<8) {M:List Sq}(lM:M.length<=1000) {x1:Sl}:Dk [.fz (dLn (lns g)),x1,.ow (dL M),.fz (.int (r:Int)),.fz (.int (c:Int))] =
  if mOk g (r,c)=true then .ok (.nx [.fz (dLn (lns g)),x1,.ow (dL (M++floorOf g [(r,c)])),.fz (.int (r:Int)),.fz (.int (c:Int))]) else .ok (.rt .non):=by
 have tm:Bh (Bj 3 Cj (Ac (vF 0) (Ac (vF 3) (Ac (vF 4) (Bf))))) [.fz (dLn (lns g)),x1,.ow (dL M),.fz (.int (r:Int)),.fz (.int (c:Int))]=.ok (mOk g (r,c)):=by
  refine Dl ?_
  show (if ([dLn (lns g),.int (r:Int),.int (c:Int)]:List D).length=3 then Cj [dLn (lns g),.int (r:Int),.int (c:Int)] else .no)=_
  rw [if_pos (by rfl),Aib g hr hc]
 have tn:Bh (e2 fNe (e2 fIx (e2 fIx (vE 0) (vE 3)) (vE 4)) (kE (.str "."))) [.fz (dLn (lns g)),x1,.ow (dL M),.fz (.int (r:Int)),.fz (.int (c:Int))]=.ok (!(decide (g r c=46))):=by
  refine Dl ?_
  show ((ofO (fIx (dLn (lns g)) (.int (r:Int))) >>= λ x=>ofO (fIx x (.int (c:Int)))) >>= λ x=>ofO (fNe x (.str ".")))=_
  rw [Aca g hr hc]
  show ofO (fNe (.str ⟨#[g r c]⟩) (.str "."))=_
  rw [s46,Ae9]
  show R.ok (D.bl _)=_
  congr 3
  exact decide_eq_decide.2 Jc
 unfold Dk
 cases hm:mOk g (r,c) with
 | false =>
  rw [hm] at tm
  refine Gj ?_
  rw [Ig]
  unfold Ot
  rw [tm];rfl
 | true =>
  rw [hm] at tm
  refine Ao (Qk (Adt tm)) ?_
  rw [Ig,tn]
  by_cases e:g r c=46
  ·rw [decide_eq_true e,show floorOf g [(r,c)]=[] by simp [floorOf,e],List.append_nil];rfl
  ·rw [decide_eq_false e,show floorOf g [(r,c)]=[up (r,c)] by simp [floorOf,e]]
   simp [dL,show M.length<1000000 by omega,up]
theorem O8 (g:Nat->Nat->Nat) {r:Nat}(hr:r<8) {x1:Sl}:∀ (cs:List Nat) (M:List Sq) (x4:Sl),(∀ c∈cs,c<8)->M.length+cs.length<=1000->∃ u4,forL (gN 4) Dk (cs.map λ (c:Nat)=>D.int (c:Int)) [.fz (dLn (lns g)),x1,.ow (dL M),.fz (.int (r:Int)),x4] =
  if (cs.map λ c=>(r,c)).all (mOk g)=true then .ok (.nx [.fz (dLn (lns g)),x1,.ow (dL (M++floorOf g (cs.map λ c=>(r,c)))),.fz (.int (r:Int)),u4]) else .ok (.rt .non)
 | [],M,x4,_,_=>⟨x4,by
  rw [if_pos (by rfl),show floorOf g (([]:List Nat).map λ c=>(r,c))=[] from rfl,List.append_nil];rfl⟩
 | c :: cs,M,x4,hc,hl=>by
  have hb:=Wj g hr (hc c (by simp)) (M:=M) (by simp at hl;omega) (x1:=x1)
  rw [List.map_cons,List.map_cons,List.all_cons]
  cases hm:mOk g (r,c) with
  | false =>
   rw [hm,if_neg (by simp)] at hb
   exact⟨x4,by rw [if_neg (by simp)];exact Tq (set:=gN 4) rfl hb⟩
  | true =>
   rw [hm,if_pos rfl] at hb
   have lf:(floorOf g [(r,c)]).length<=1:=by
    unfold floorOf
    rw [List.length_map]
    exact List.length_filter_le _ _
   obtain⟨u4,e⟩:=O8 g hr cs (M++floorOf g [(r,c)]) (.fz (.int (c:Int))) (λ c' h'=>hc c' (List.mem_cons_of_mem _ h')) (by rw [List.length_append];simp only [List.length_cons] at hl;omega)
   refine⟨u4,(Ht (set:=gN 4) rfl hb).trans (e.trans ?_)⟩
   rw [Bool.true_and,List.append_assoc,<-Adw];rfl
theorem Nk (g:Nat->Nat->Nat) {x1:Sl}:∀ (rs:List Nat) (M:List Sq) (x3 x4:Sl),(∀ r∈rs,r<8)->M.length+8 * rs.length<=990->∃ u3 u4,forL (gN 3) Cm (rs.map λ (c:Nat)=>D.int (c:Int)) [.fz (dLn (lns g)),x1,.ow (dL M),x3,x4] =
  if (rws rs).all (mOk g)=true then .ok (.nx [.fz (dLn (lns g)),x1,.ow (dL (M++floorOf g (rws rs))),u3,u4]) else .ok (.rt .non)
 | [],M,x3,x4,_,_=>⟨x3,x4,by
  rw [if_pos (by rfl),show rws []=[] from rfl,show floorOf g []=[] from rfl,List.append_nil];rfl⟩
 | r :: rs,M,x3,x4,hr,hl=>by
  obtain⟨u4,e⟩:=O8 g (hr r (by simp)) (x1:=x1) (List.range 8) M x4 (λ c hc=>List.mem_range.mp hc) (by simp at hl ⊢;omega)
  have eb:Cm [.fz (dLn (lns g)),x1,.ow (dL M),.fz (.int (r:Int)),x4]=_:=(show Cm [.fz (dLn (lns g)),x1,.ow (dL M),.fz (.int (r:Int)),x4]=forL (gN 4) Dk ((List.range 8).map λ (c:Nat)=>D.int (c:Int)) [.fz (dLn (lns g)),x1,.ow (dL M),.fz (.int (r:Int)),x4] from rfl).trans e
  have er:rws (r :: rs)=((List.range 8).map λ c=>(r,c))++rws rs:=by unfold rws;rw [List.flatMap_cons]
  rw [List.map_cons,er,List.all_append]
  cases hm:((List.range 8).map λ c=>(r,c)).all (mOk g) with
  | false =>
   rw [hm,if_neg (by simp)] at eb
   exact⟨x3,x4,by rw [if_neg (by simp)];exact Tq (set:=gN 3) rfl eb⟩
  | true =>
   rw [hm,if_pos rfl] at eb
   have lf:(floorOf g ((List.range 8).map λ c=>(r,c))).length<=8:=by
    unfold floorOf
    rw [List.length_map]
    exact Nat.le_trans (List.length_filter_le _ _) (by simp)
   obtain⟨u3,u4',e'⟩:=Nk g rs (M++floorOf g ((List.range 8).map λ c=>(r,c))) (.fz (.int (r:Int))) u4 (λ c' h'=>hr c' (List.mem_cons_of_mem _ h')) (by rw [List.length_append];simp only [List.length_cons] at hl;omega)
   refine⟨u3,u4',(Ht (set:=gN 3) rfl eb).trans (e'.trans ?_)⟩
   rw [Bool.true_and,List.append_assoc,<-Adw]
theorem Agc {g:Nat->Nat->Nat}(h10:∀ r c,g r c≠10):Ba [dLn (lns g)]=.ok (if sqs.all (mOk g)=true then dL (floorOf g sqs) else .non):=by
 obtain⟨u3,u4,e⟩:=Nk g (x1:=.un) (List.range 8) [] .un .un (λ c hc=>List.mem_range.mp hc) (by simp)
 rw [Z1,List.nil_append] at e
 have key:Dg [.fz (dLn (lns g)),.un,.un,.un,.un]=.ok (.rt (if sqs.all (mOk g)=true then dL (floorOf g sqs) else .non)):=by
  unfold Dg
  refine Ao (Qk ((Mw (Jp h10) _ _ _).trans (by rw [decide_eq_true (Kp g)];rfl))) ?_
  refine Ao (E':=[.fz (dLn (lns g)),.un,.ow (dL []),.un,.un]) rfl ?_
  have ef:Mg (iR1 (kE (.int 8))) (gN 3) Cm [.fz (dLn (lns g)),.un,.ow (dL []),.un,.un]=_:=(show _=forL (gN 3) Cm ((List.range 8).map λ (c:Nat)=>D.int (c:Int)) [.fz (dLn (lns g)),.un,.ow (dL []),.un,.un] from rfl).trans e
  by_cases ha:sqs.all (mOk g)=true
  ·rw [if_pos ha] at ef ⊢
   exact Ao ef rfl
  ·rw [if_neg ha] at ef ⊢
   exact Gj ef
 show ended (Dg [.fz (dLn (lns g)),.un,.un,.un,.un])=_
 rw [key];rfl
theorem Afq {ls:List (List Nat)}(h:Lns ls) {E:Ev}(hE:vE 1 E=.ok (dLn ls)):N6 "\n" (vE 1) E=.ok (.str ⟨(jl 10 ls).toArray⟩):=by
 have el:dLn ls=.lst ((ls.map λ l=>(⟨l.toArray⟩:Str)).map D.str):=by unfold dLn;rw [List.map_map];rfl
 have hsum:∀ (ks:List (List Nat)),(∀ l∈ks,l.length<=9)->((ks.map λ l=>(⟨l.toArray⟩:Str)).map (·.length)).sum<=9 * ks.length:=λ ks=>by
  induction ks with
  | nil=>intro _;exact Nat.le_refl _
  | cons a r ih =>
   intro hk
   have h1:=ih λ l hl=>hk l (List.mem_cons_of_mem _ hl)
   have h2:=hk a (by simp)
   have h3:(⟨a.toArray⟩:Str).length=a.length:=by show a.toArray.size=_;simp
   simp only [List.map_cons,List.sum_cons,List.length_cons] at h1 ⊢
   rw [h3]
   omega
 have h1:=hsum ls λ l hl=>(h.fr l hl).2
 have h2:=h.len
 have ej:=Xw (sep:="\n") (zs:=ls.map λ l=>(⟨l.toArray⟩:Str)) (by decide +kernel) (by rw [List.length_map];omega)
 have et:Str.join "\n" (ls.map λ l=>(⟨l.toArray⟩:Str))=⟨(jl 10 ls).toArray⟩:=Zv (by
  rw [s10,Ui,List.map_map]
  congr 1
  conv=>rhs;rw [<-List.map_id ls]
  exact List.map_congr_left λ l _=>rfl)
 unfold N6
 rw [hE,el]
 simp only [R.ok_bind]
 rw [ej,et];rfl
theorem Qy {α β:Type}{f:α->Option β}{p:α->Bool}:∀ {l:List α},(∀ x∈l,p x=false->f x=none)->(l.filter p).filterMap f=l.filterMap f
 | [],_=>rfl
 | x :: r,h=>by
  have ih:=Qy (f:=f) (p:=p) (l:=r) λ y hy=>h y (List.mem_cons_of_mem _ hy)
  cases e:p x with
  | true=>rw [List.filter_cons_of_pos e,List.filterMap_cons,List.filterMap_cons,ih]
  | false=>rw [List.filter_cons_of_neg (by simp [e]),List.filterMap_cons,h x (by simp) e,ih]
theorem Zy (g:Nat->Nat->Nat) {p:Nat × Nat}(hp:p∈sqs) {M:List Fl}(lM:M.length<=1000) {x0 x2 x3 x4 x7:Sl}:K5 [x0,.fz (dLn (lns g)),x2,x3,x4,.ow (dFL M),.fz (dS (up p)),x7]=.ok (.nx [x0,.fz (dLn (lns g)),x2,x3,x4,.ow (dFL (M++(fl1 g p).toList)),.fz (dS (up p)),.fz (.str ⟨#[g p.1 p.2]⟩)]):=by
 obtain⟨p1,p2⟩:=Df.mp hp
 unfold K5
 refine Ao (E':=[x0,.fz (dLn (lns g)),x2,x3,x4,.ow (dFL M),.fz (dS (up p)),.fz (.str ⟨#[g p.1 p.2]⟩)]) (Cz (Aca g p1 p2)) ?_
 have t1:Bh (e2 fEq (vE 7) (kE (.str "<"))) [x0,.fz (dLn (lns g)),x2,x3,x4,.ow (dFL M),.fz (dS (up p)),.fz (.str ⟨#[g p.1 p.2]⟩)]=.ok (decide (g p.1 p.2=60)):=by
  refine Dl ?_
  show ofO (fEq (.str ⟨#[g p.1 p.2]⟩) (.str "<"))=_
  rw [s60,Rn]
  show R.ok (D.bl _)=_
  congr 2
  exact decide_eq_decide.2 Jc
 have e94:fEq (.str ⟨#[g p.1 p.2]⟩) (.str "^")=some (.bl (decide (g p.1 p.2=94))):=by
  rw [s94,Rn]
  congr 2
  exact decide_eq_decide.2 Jc
 have t2:Bh (e2 fEq (vE 7) (kE (.str "^"))) [x0,.fz (dLn (lns g)),x2,x3,x4,.ow (dFL M),.fz (dS (up p)),.fz (.str ⟨#[g p.1 p.2]⟩)]=.ok (decide (g p.1 p.2=94)):=by
  refine Dl ?_
  show ofO (fEq (.str ⟨#[g p.1 p.2]⟩) (.str "^"))=_
  rw [e94];rfl
 rw [Ig,Zd,t1]
 unfold fl1
 by_cases h1:g p.1 p.2=60
 ·have h2:¬ g p.1 p.2=94:=by omega
  rw [if_pos h1,decide_eq_true h1]
  rw [decide_eq_false h2] at e94
  simp [e94,show M.length<1000000 by omega,up,Amh]
 ·rw [if_neg h1,decide_eq_false h1]
  simp only [R.ok_bind,Bool.false_eq_true,if_false]
  rw [t2]
  by_cases h2:g p.1 p.2=94
  ·rw [if_pos h2,decide_eq_true h2]
   rw [decide_eq_true h2] at e94
   simp [e94,show M.length<1000000 by omega,up,Amh]
  ·rw [if_neg h2,decide_eq_false h2]
   simp
theorem law_true:∀ ns:List Int,ns.length<=63->Lx [.scr ns]=.ok (.bl true):=by
 intro ns _
 obtain⟨F,L,q0,hF,hL,lL⟩:=S9 ns
 have e2':=Tn L
 have c2:Af [.scr ns,.int 2]=_:=P0 ns 2
 have c3:Af [.scr ns,.int 3]=_:=P0 ns 3
 have c4:Af [.scr ns,.int 4]=_:=P0 ns 4
 generalize ns.getD 2 0=z2 at c2
 generalize ns.getD 3 0=z3 at c3
 generalize ns.getD 4 0=z4 at c4
 obtain⟨pl,hpl⟩:=Int.eq_ofNat_of_zero_le (Int.emod_nonneg z3 (show (64:Int)≠0 by decide))
 have hp64:pl<64:=by have:=Int.emod_lt_of_pos z3 (show (0:Int)<64 by decide);omega
 have hr:pl / 8<8:=by omega
 have hc:pl % 8<8:=by omega
 have h10:=Aez L
 obtain⟨d,hd,es⟩:=Aav (ls:=lns (gr L)) (by simp [lns]) (Kp (gr L)).2 (lies:=z2 % 7) (cell:=z4) hr hc
 rw [show (lns (gr L))[pl / 8]'(by simp [lns];exact hr)=Fv (gr L) (pl / 8) by simp [lns]] at es
 obtain⟨ls,els,hls,hcase⟩:=Xe (g:=gr L) h10 (lies:=z2 % 7) hr hc hd
 rw [els] at es
 have start:∀ (f v:D) (R':R Out),Ba [dLn ls]=.ok f->Bo [.str ⟨(jl 10 ls).toArray⟩]=.ok v →
   (Bg (xIf (Bh (e1 Aj3 (vE 3))) (Ey (Aam (e1 (Z8 .int) (vE 4)) (e2 fEq (vE 4) (kE (.int 0))))) (Ga)) (Bg (xIf (bOr (Ot (Bh (e1 (Z8 .tuple) (vE 4)))) (bOr (Bh (e2 fNe (e1 Hf (vE 4)) (kE (.int 2)))) (Ot (Bh (e1 (Z8 .list) (e2 fIx (vE 4) (kE (.int 0)))))))) (Ey (kE (.bl false))) (Ga)) (Bg (Vr 5 (K6 (Bf))) (Bg (Mg (iD (vF 3)) (gN 6) (K5)) (Ey (Aam (e2 fEq (e2 fIx (vE 4) (kE (.int 0))) (vE 3)) (Aam (e1 (Z8 .list) (e2 fIx (vE 4) (kE (.int 1)))) (e2 fEq (e2 fIx (vE 4) (kE (.int 1))) (vE 5)))))))) ) [.fz (.scr ns),.fz (dLn ls),.fz (.int (pl:Int)),.fz f,.fz v,.un,.un,.un]=R'->Yu [.fz (.scr ns),.un,.un,.un,.un,.un,.un,.un]=R':=λ f v R' hf hv hR=>by
  unfold Yu
  refine Ao (E':=[.fz (.scr ns),.fz (dLn (lns (gr L))),.un,.un,.un,.un,.un,.un]) (Cz (d:=dLn (lns (gr L))) ?_) ?_
  ·show ((Bu [.scr ns] >>= λ x=>R.ok [x]) >>= λ ds=>if ds.length=1 then Bs ds else .no)=_
   rw [q0]
   show (if ([D.dic (sD (sgL L))]:List D).length=1 then Bs [.dic (sD (sgL L))] else .no)=_
   rw [if_pos (by rfl),e2']
  refine Ao (E':=[.fz (.scr ns),.fz (dLn (lns (gr L))),.fz (.int (pl:Int)),.un,.un,.un,.un,.un]) (Cz (d:=.int (pl:Int)) ?_) ?_
  ·simp [c3,hpl]
  refine Ao (E':=[.fz (.scr ns),.fz (dLn ls),.fz (.int (pl:Int)),.un,.un,.un,.un,.un]) (Cz (d:=dLn ls) ?_) ?_
  ·have ea:Ac (vF 1) (Ac (e2 Kd (Bj 2 Af (Ac (vF 0) (Ac (kE (.int 2)) (Bf)))) (kE (.int 7))) (Ac (e2 T8 (vE 2) (kE (.int 8))) (Ac (e2 Kd (vE 2) (kE (.int 8))) (Ac (Bj 2 Af (Ac (vF 0) (Ac (kE (.int 4)) (Bf)))) (Bf))))) [.fz (.scr ns),.fz (dLn (lns (gr L))),.fz (.int (pl:Int)),.un,.un,.un,.un,.un]=.ok [dLn (lns (gr L)),.int (z2 % 7),.int ((pl / 8:Nat):Int),.int ((pl % 8:Nat):Int),.int z4]:=by
    simp [c2,c4]
   rw [Zj,ea]
   show (if ([dLn (lns (gr L)),.int (z2 % 7),.int ((pl / 8:Nat):Int),.int ((pl % 8:Nat):Int),.int z4]:List D).length=5 then Bw [dLn (lns (gr L)),.int (z2 % 7),.int ((pl / 8:Nat):Int),.int ((pl % 8:Nat):Int),.int z4] else .no)=_
   rw [if_pos (by rfl),es]
  refine Ao (E':=[.fz (.scr ns),.fz (dLn ls),.fz (.int (pl:Int)),.fz f,.un,.un,.un,.un]) (Cz (d:=f) ?_) ?_
  ·show (if ([dLn ls]:List D).length=1 then Ba [dLn ls] else .no)=_
   rw [if_pos (by rfl),hf]
  refine Ao (E':=[.fz (.scr ns),.fz (dLn ls),.fz (.int (pl:Int)),.fz f,.fz v,.un,.un,.un]) (Cz (d:=v) ?_) hR
  rw [Zj,Aed,Afq hls rfl]
  show (if ([D.str ⟨(jl 10 ls).toArray⟩]:List D).length=1 then Bo [.str ⟨(jl 10 ls).toArray⟩] else .no)=_
  rw [if_pos (by rfl),hv]
 have refused:Ba [dLn ls]=.ok .non->Bo [.str ⟨(jl 10 ls).toArray⟩]=.ok (.int 0)->Lx [.scr ns]=.ok (.bl true):=λ hf hv=>by
  show ended (Yu [.fz (.scr ns),.un,.un,.un,.un,.un,.un,.un])=_
  rw [start .non (.int 0) (.ok (.rt (.bl true))) hf hv (Gj rfl)];rfl
 rcases hcase with hs|⟨g,rfl,g10,same⟩
 ·exact refused (Agr hls hs) (Aha hls hs)
 ·have lf:(flagsOf g sqs).length<=33:=by
   have:=Abr (p:=(pl / 8,pl % 8)) (Df.mpr ⟨hr,hc⟩) same
   rw [Wi hF hL] at this
   omega
  have ef:=Agc g10
  have et:=Aja g10 lf
  by_cases ha:sqs.all (mOk g)=true
  ·rw [if_pos ha] at ef et
   have exs:(floorOf g sqs).map dS=(sqs.filter λ p=>!(decide (g p.1 p.2=46))).map λ p=>dS (up p):=by unfold floorOf;rw [List.map_map];rfl
   have efl:flagsOf g (sqs.filter λ p=>!(decide (g p.1 p.2=46)))=flagsOf g sqs:=Qy λ p _ hp=>by
    have h46:g p.1 p.2=46:=by simpa using hp
    unfold fl1
    rw [h46];rfl
   obtain⟨E1,q1,t6,t7,rfl⟩:=Dv (set:=gN 6) (b:=K5) (λ (p:Nat × Nat)=>dS (up p)) (λ (pre:List (Nat × Nat)) E=>∃ t6 t7,E=[.fz (.scr ns),.fz (dLn (lns g)),.fz (.int (pl:Int)),.fz (dL (floorOf g sqs)),.fz (.tup [dL (floorOf g sqs),dFL (flagsOf g sqs)]),.ow (dFL (flagsOf g pre)),t6,t7]) (sqs.filter λ p=>!(decide (g p.1 p.2=46))) (by
    rintro pre p post epre E ⟨t6,t7,rfl⟩
    refine⟨_,rfl,?_⟩
    have hp:p∈sqs:=(List.mem_filter.mp (show p∈sqs.filter _ by rw [epre];simp)).1
    have lp:pre.length<=64:=by
     have h1:=congrArg List.length epre
     have h2:(sqs.filter λ p=>!(decide (g p.1 p.2=46))).length<=64:=List.length_filter_le _ sqs
     rw [List.length_append] at h1
     omega
    have lf:(flagsOf g pre).length<=1000:=by
     have:(flagsOf g pre).length<=pre.length:=List.length_filterMap_le ..
     omega
    refine Ek (E:=[.fz (.scr ns),.fz (dLn (lns g)),.fz (.int (pl:Int)),.fz (dL (floorOf g sqs)),.fz (.tup [dL (floorOf g sqs),dFL (flagsOf g sqs)]),.ow (dFL (flagsOf g (pre++[p]))),.fz (dS (up p)),.fz (.str ⟨#[g p.1 p.2]⟩)]) ⟨_,_,rfl⟩ ((Zy g hp lf).trans ?_)
    have:flagsOf g (pre++[p])=flagsOf g pre++(fl1 g p).toList:=by
     unfold flagsOf
     rw [List.filterMap_append]
     congr 1
    rw [this]) [.fz (.scr ns),.fz (dLn (lns g)),.fz (.int (pl:Int)),.fz (dL (floorOf g sqs)),.fz (.tup [dL (floorOf g sqs),dFL (flagsOf g sqs)]),.ow (dFL []),.un,.un] ⟨_,_,rfl⟩
   rw [efl,<-exs] at q1
   show ended (Yu [.fz (.scr ns),.un,.un,.un,.un,.un,.un,.un])=_
   rw [start (dL (floorOf g sqs)) (.tup [dL (floorOf g sqs),dFL (flagsOf g sqs)]) (.ok (.rt (.bl true))) ef et ?_]
   ·rfl
   refine Ao (E':=[.fz (.scr ns),.fz (dLn (lns g)),.fz (.int (pl:Int)),.fz (dL (floorOf g sqs)),.fz (.tup [dL (floorOf g sqs),dFL (flagsOf g sqs)]),.un,.un,.un]) rfl ?_
   refine Ao (E':=[.fz (.scr ns),.fz (dLn (lns g)),.fz (.int (pl:Int)),.fz (dL (floorOf g sqs)),.fz (.tup [dL (floorOf g sqs),dFL (flagsOf g sqs)]),.un,.un,.un]) rfl ?_
   refine Ao (E':=[.fz (.scr ns),.fz (dLn (lns g)),.fz (.int (pl:Int)),.fz (dL (floorOf g sqs)),.fz (.tup [dL (floorOf g sqs),dFL (flagsOf g sqs)]),.ow (dFL []),.un,.un]) rfl ?_
   refine Ao (E':=[.fz (.scr ns),.fz (dLn (lns g)),.fz (.int (pl:Int)),.fz (dL (floorOf g sqs)),.fz (.tup [dL (floorOf g sqs),dFL (flagsOf g sqs)]),.ow (dFL (flagsOf g sqs)),t6,t7]) q1 ?_
   have f1:Z8 .list (dFL (flagsOf g sqs))=some (.bl true):=rfl
   simp [f1]
  ·rw [if_neg ha] at ef et
   exact refused ef et
end M

set_option maxHeartbeats 4000000
set_option Elab.async false
set_option linter.all false
set_option maxRecDepth 100000
namespace M
open PySem PySem.Spec PyProof.Rows L2
noncomputable def top (i:Nat):Stmt:=PySem.Challenge.pw_flagfloor_k17_read_or_refused.main.body.getD i (.Pass ⟨0,0,0,0⟩)
structure Txt (mg:Str->Option Value):Prop where
 g_SIDE:∃ t,mg "SIDE"=some (.int 8 t)
 g_zip:mg "zip"=none
 g_all:mg "all"=none
 g_sorted:mg "sorted"=none
 g_range:mg "range"=none
 g_BARE:∃ t,mg "BARE"=some (.str "." t)
 g_len:mg "len"=none
 g_any:mg "any"=none
 g_enumerate:mg "enumerate"=none
 g_isinstance:mg "isinstance"=none
 g_ValueError:mg "ValueError"=none
 g_int:mg "int"=none
 g_tuple:mg "tuple"=none
 g_list:mg "list"=none
structure Exs (K:PySem.W.Frag) (mg:Str->Option Value) (cFloorError cNoFloor cNoLaying cNoNote:Addr):Prop where
 m_NoNote:mg "NoNote"=some (.ref cNoNote)
 m_NoFloor:mg "NoFloor"=some (.ref cNoFloor)
 m_NoLaying:mg "NoLaying"=some (.ref cNoLaying)
 m_FloorError:mg "FloorError"=some (.ref cFloorError)
 t_NoNote:XTop K cNoNote
 t_FloorError:XTop K cFloorError
 t_NoFloor:XTop K cNoFloor
 t_NoLaying:XTop K cNoLaying
 x_NoNote:PySem.W.excIn K cNoNote [.type "ValueError",.type "Exception",.type "BaseException",.type "object"] "ValueError.__new__"=true
 s_NoNote_FloorError:PySem.W.mroIn K cNoNote (.ref cFloorError)=some true
 k_NoNote_NoFloor:PySem.W.kitOne K (.ref cNoNote) (.ref cNoFloor)=some false
 k_NoNote_NoLaying:PySem.W.kitOne K (.ref cNoNote) (.ref cNoLaying)=some false
 k_NoNote_NoNote:PySem.W.kitOne K (.ref cNoNote) (.ref cNoNote)=some true
 b_NoNote_ValueError:PySem.W.kitOne K (.ref cNoNote) (.type "ValueError")=some true
section
variable {cFloorError cNoFloor cNoLaying cNoNote:Addr}{P:Program}{w:World}{K:PySem.W.Frag}{mg:Str->Option Value}{base:Heap}
noncomputable abbrev Jg:Stmt:=top 7
theorem S6:FnScope ["square"] ["square"] (Ai Jg):=⟨rfl,rfl,rfl,by decide +kernel,rfl,by decide +kernel,by decide +kernel⟩
theorem R4 {f:Addr}{fd:FuncData}(Dn:Dfn K mg "on_board" Jg f fd) (T:Txt mg) :Cal P w K mg base "on_board" ["square"] 1 Dc :=
 ⟨f,fd,Dn.mg,Dn.fn.kp,Dn.fn.binds λ _ _ _ _ _ _ us hl=>by obtain⟨_,rfl⟩:=len1 hl;rfl,Eb Dn.fn S6 λ cdv A outer s H E hr gd G hx =>
  Aj (Bp (Q8 (Ah8 Abp T9 (SF.se (Ad)) (SF.se (Cd (Aa 0) (SF.se (Ad)))) (SF.se (Jm T.g_SIDE (by rfl)))) (Ux (Ah8 Abp T9 (SF.se (Ad)) (SF.se (Cd (Aa 0) (SF.se (Ad)))) (SF.se (Jm T.g_SIDE (by rfl)))))))⟩
noncomputable abbrev Gg:Stmt:=top 8
theorem Mi:FnScope ["floor","square","earlier","later"] ["floor"] (Ai Gg):=⟨rfl,rfl,rfl,by decide +kernel,rfl,by decide +kernel,by decide +kernel⟩
theorem Mv {f:Addr}{fd:FuncData}(Dn:Dfn K mg "check_floor" Gg f fd) (T:Txt mg) (C_on_board:Cal P w K mg base "on_board" ["square"] 1 Dc):Cal P w K mg base "check_floor" ["floor"] 2 Bm :=
 ⟨f,fd,Dn.mg,Dn.fn.kp,Dn.fn.binds λ _ _ _ _ _ _ us hl=>by obtain⟨_,rfl⟩:=len1 hl;rfl,Eb Dn.fn Mi λ cdv A outer s H E hr gd G hx =>
  Ae (Dy gd (Ib (Ag 0)) (Cy gd 1) (λ _ e1=>Aj (Ds (Jo (Ku (SF.se (Dh (x:="on_board") (ps:=["square"]) (k:=1) (j:=1) (dn:=Dc) (by exact C_on_board) (Vu e1 hx) (by exact hr) (by decide) (by rfl) (Ab (Ag 1) (Ak)))))) (Aj (U6)) (Bt))))
  (Aj (Dy gd (Adn  (by rfl) T.g_zip (Ag 0) (Du (Aa 0) (Cr (SF.se (Ad))) (Cw))) (Kg gd 2 3) (λ _ e2=>Aj (Ds (Jo (Abh gd (Aa 2) (Aa 3))) (Aj (U6)) (Bt)))))⟩
noncomputable abbrev Eo:Stmt:=top 10
theorem Jz:FnScope ["flag","row","column"] ["flag"] (Ai Eo):=⟨rfl,rfl,rfl,by decide +kernel,rfl,by decide +kernel,by decide +kernel⟩
theorem Jv {f:Addr}{fd:FuncData}(Dn:Dfn K mg "squares_under" Eo f fd) (T:Txt mg) :Cal P w K mg base "squares_under" ["flag"] 1 Al :=
 ⟨f,fd,Dn.mg,Dn.fn.kp,Dn.fn.binds λ _ _ _ _ _ _ us hl=>by obtain⟨_,rfl⟩:=len1 hl;rfl,Eb Dn.fn Jz λ cdv A outer s H E hr gd G hx =>
  Ae (Az 1 (Cd (Aa 0) (SF.se (Ad))) gd.nd)
  (Ae (Az 2 (Cd (Aa 0) (SF.se (Ad))) gd.nd)
  (Ae (Ds (Lw gd (SF.se (Cd (Aa 0) (SF.se (Ad)))) (SF.se (Ad))) (Aj (Bp (SN.sf (Ew (Ab (Cq (Ab (Ag 1) (Ab (Ag 2) (Ak)))) (Ab (Cq (Ab (Ag 1) (Ab (Ay (Aa 2) (SF.se (Ad))) (Ak)))) (Ak))))))) (Bt))
  (Aj (Bp (SN.sf (Ew (Ab (Cq (Ab (Ag 1) (Ab (Ag 2) (Ak)))) (Ab (Cq (Ab (Ay (Aa 1) (SF.se (Ad))) (Ab (Ag 2) (Ak)))) (Ak)))))))))⟩
noncomputable abbrev Fi:Stmt:=top 11
theorem K4:FnScope ["flags","earlier","later"] ["flags"] (Ai Fi):=⟨rfl,rfl,rfl,by decide +kernel,rfl,by decide +kernel,by decide +kernel⟩
theorem Mf {f:Addr}{fd:FuncData}(Dn:Dfn K mg "are_in_order" Fi f fd) (T:Txt mg) :Cal P w K mg base "are_in_order" ["flags"] 1 Bd :=
 ⟨f,fd,Dn.mg,Dn.fn.kp,Dn.fn.binds λ _ _ _ _ _ _ us hl=>by obtain⟨_,rfl⟩:=len1 hl;rfl,Eb Dn.fn K4 λ cdv A outer s H E hr gd G hx =>
  Aj (Bp (Ad1 gd  (by rfl) T.g_all (SN.se (K7 gd hx (Adn  (by rfl) T.g_zip (Ag 0) (Du (Aa 0) (Cr (SF.se (Ad))) (Cw))) (⟨Wd rfl (by decide +kernel) (by decide +kernel) (by repeat first|exact True.intro|refine And.intro (by first|(intro h;exact absurd h (by decide))|(intro _;exact Or.inl rfl)|(intro _;exact Or.inr rfl)) ?_),Ng (N:=["flags","earlier","later"]) (by decide +kernel),Ac9 _ _,λ _ _ _ _=>Kg (Jw gd) 1 2,λ _ _ _ _ _ e1=>T7,λ _ _ _ _ _ e1=>Amb (Jw gd) (SF.se (Du (Aa 1) (Cw) (Cr (SF.se (Ad))))) (SF.se (Du (Aa 2) (Cw) (Cr (SF.se (Ad)))))⟩)))))⟩
noncomputable abbrev Ho:Stmt:=top 12
theorem Q7:FnScope ["flags","squares","flag"] ["flags"] (Ai Ho):=⟨rfl,rfl,rfl,by decide +kernel,rfl,by decide +kernel,by decide +kernel⟩
theorem Qp {f:Addr}{fd:FuncData}(Dn:Dfn K mg "all_under" Ho f fd) (T:Txt mg) (C_squares_under:Cal P w K mg base "squares_under" ["flag"] 1 Al):Cal P w K mg base "all_under" ["flags"] 2 Ck :=
 ⟨f,fd,Dn.mg,Dn.fn.kp,Dn.fn.binds λ _ _ _ _ _ _ us hl=>by obtain⟨_,rfl⟩:=len1 hl;rfl,Eb Dn.fn Q7 λ cdv A outer s H E hr gd G hx =>
  Ae (Hh 1 (Ew (Ak)) gd.nd)
  (Ae (Dy gd (Ib (Ag 0)) (Cy gd 2) (λ _ e1=>Aj (Aia 1 (Dh (x:="squares_under") (ps:=["flag"]) (k:=1) (j:=1) (dn:=Al) (by exact C_squares_under) (Vu e1 hx) (by exact hr) (by decide) (by rfl) (Ab (Ag 2) (Ak))))))
  (Aj (Bp (SN.sf (Aga gd  (by rfl) T.g_sorted (Aa 1))))))⟩
noncomputable abbrev Hl:Stmt:=top 13
theorem Rh:FnScope ["floor","flags","flag"] ["floor","flags"] (Ai Hl):=⟨rfl,rfl,rfl,by decide +kernel,rfl,by decide +kernel,by decide +kernel⟩
theorem Pn {f:Addr}{fd:FuncData}(Dn:Dfn K mg "is_laying" Hl f fd) (T:Txt mg) (C_check_floor:Cal P w K mg base "check_floor" ["floor"] 2 Bm) (C_are_in_order:Cal P w K mg base "are_in_order" ["flags"] 1 Bd) (C_all_under:Cal P w K mg base "all_under" ["flags"] 2 Ck):Cal P w K mg base "is_laying" ["floor","flags"] 3 Av :=
 ⟨f,fd,Dn.mg,Dn.fn.kp,Dn.fn.binds λ _ _ _ _ _ _ us hl=>by obtain⟨_,_,rfl⟩:=len2 hl;rfl,Eb Dn.fn Rh λ cdv A outer s H E hr gd G hx =>
  Ae (Afz (SF.se (Dh (x:="check_floor") (ps:=["floor"]) (k:=2) (j:=2) (dn:=Bm) (by exact C_check_floor) hx (by exact hr) (by decide) (by rfl) (Ab (Ag 0) (Ak)))))
  (Ae (Ds (Jo (Ku (SF.se (Ad1 gd  (by rfl) T.g_all (SN.se (K7 gd hx (Ib (Ag 1)) (⟨Wd rfl (by decide +kernel) (by decide +kernel) (by repeat first|exact True.intro|refine And.intro (by first|(intro h;exact absurd h (by decide))|(intro _;exact Or.inl rfl)|(intro _;exact Or.inr rfl)) ?_),Ng (N:=["floor","flags","flag"]) (by decide +kernel),Ue _ ,λ _ _ _ _=>Cy (Jw gd) 2,λ _ _ _ _ _ e1=>T7,λ _ _ _ _ _ e1=>Al3 (Jw gd) (SF.se (Cd (Aa 2) (SF.se (Ad)))) (SF.se (Cq (Ab (Ad) (Ab (Ad) (Ak)))))⟩))))))) (Aj (Bp (Agm))) (Bt))
  (Aj (Bp (Q8 (Dh (x:="are_in_order") (ps:=["flags"]) (k:=1) (j:=2) (dn:=Bd) (by exact C_are_in_order) hx (by exact hr) (by decide) (by rfl) (Ab (Ag 1) (Ak))) (Ux (Tj gd (SF.se (Dh (x:="all_under") (ps:=["flags"]) (k:=2) (j:=2) (dn:=Ck) (by exact C_all_under) hx (by exact hr) (by decide) (by rfl) (Ab (Ag 1) (Ak)))) (Aa 0)))))))⟩
noncomputable abbrev Lg:Stmt:=top 17
theorem Vp:FnScope ["flags","signs","flag","square","sign","lines","row","column"] ["flags"] (Ai Lg):=⟨rfl,rfl,rfl,by decide +kernel,rfl,by decide +kernel,by decide +kernel⟩
theorem Wo {f:Addr}{fd:FuncData}(Dn:Dfn K mg "written" Lg f fd) (T:Txt mg) (SA:Sgn K mg) (C_squares_under:Cal P w K mg base "squares_under" ["flag"] 1 Al):Cal P w K mg base "written" ["flags"] 2 Ce :=
 ⟨f,fd,Dn.mg,Dn.fn.kp,Dn.fn.binds λ _ _ _ _ _ _ us hl=>by obtain⟨_,rfl⟩:=len1 hl;rfl,Eb Dn.fn Vp λ cdv A outer s H E hr gd G hx =>
  Ae (Hh 1 (Zr) gd.nd)
  (Ae (Dy gd (Ib (Ag 0)) (Cy gd 2) (λ _ e1=>Aj (Dy gd (Agg SA  (by rfl) T.g_zip (by rfl) (Dh (x:="squares_under") (ps:=["flag"]) (k:=1) (j:=1) (dn:=Al) (by exact C_squares_under) (Vu e1 hx) (by exact hr) (by decide) (by rfl) (Ab (Ag 2) (Ak))) (SF.se (Cd (Aa 2) (SF.se (Ad))))) (Kg gd 3 4) (λ _ e2=>Aj (Oa 1 (hu1 gd) (Aa 3) (Ag 4))))))
  (Ae (Hh 5 (Ew (Ak)) gd.nd)
  (Ae (Dy gd (Dz  (by rfl) T.g_range (Jm T.g_SIDE (by rfl))) (Cy gd 6) (λ _ e3=>Aj (La 5 (R3 (SN.se (K7 gd (Vu e3 hx) (Dz  (by rfl) T.g_range (Jm T.g_SIDE (by rfl))) (⟨Wd rfl (by decide +kernel) (by decide +kernel) (by repeat first|exact True.intro|refine And.intro (by first|(intro h;exact absurd h (by decide))|(intro _;exact Or.inl rfl)|(intro _;exact Or.inr rfl)) ?_),Ng (N:=["flags","signs","flag","square","sign","lines","row","column"]) (by decide +kernel),Ue _ ,λ _ _ _ _=>Cy (Jw gd) 7,λ _ _ _ _ _ e4=>T7,λ _ _ _ _ _ e4=>Aba (Jw gd) (Aa 1) (SF.se (Cq (Ab (Ag 6) (Ab (Ag 7) (Ak))))) (Aae T.g_BARE (by rfl))⟩)))))))
  (Aj (Bp (R3 (Aa 5)))))))⟩
noncomputable abbrev Dr:Stmt:=top 18
theorem Iu:FnScope ["text","lines","line","signs","row","column","sign"] ["text"] (Ai Dr):=⟨rfl,rfl,rfl,by decide +kernel,rfl,by decide +kernel,by decide +kernel⟩
theorem Ir {f:Addr}{fd:FuncData}(Dn:Dfn K mg "signs_by_square" Dr f fd) (T:Txt mg) (XT:Exs K mg cFloorError cNoFloor cNoLaying cNoNote) :CalE P w K mg base "signs_by_square" ["text"] 1 Am :=
 ⟨f,fd,Dn.mg,Dn.fn.kp,Dn.fn.binds λ _ _ _ _ _ _ us hl=>by obtain⟨_,rfl⟩:=len1 hl;rfl,Ac5 Dn.fn Iu λ cdv A outer s H E hr gd G lk =>
  Ae (Ia λ G hx=>(Az 1 (SN.sf (Ab7 (Aa 0))) gd.nd))
  (Ae (Ds (Yb λ G hx=>(SW.st (Wn (Ph gd (SF.se (Ij  (by rfl) T.g_len (Aa 1))) (SF.se (Jm T.g_SIDE (by rfl)))) (O5 (Ku (SF.se (Ai7 gd  (by rfl) T.g_any (SN.se (K7 gd hx (Ib (Ag 1)) (⟨Wd rfl (by decide +kernel) (by decide +kernel) (by repeat first|exact True.intro|refine And.intro (by first|(intro h;exact absurd h (by decide))|(intro _;exact Or.inl rfl)|(intro _;exact Or.inr rfl)) ?_),Ng (N:=["text","lines","line","signs","row","column","sign"]) (by decide +kernel),Ue _ ,λ _ _ _ _=>Cy (Jw gd) 2,λ _ _ _ _ _ e1=>T7,λ _ _ _ _ _ e1=>Ale (Jw gd) (SF.se (Ij  (by rfl) T.g_len (Aa 2))) (SF.se (Jm T.g_SIDE (by rfl)))⟩)))))))))) (Aj (Ut 5 PySem.F.excBase_ValueError lk rfl rfl (by rfl) XT.m_NoNote XT.x_NoNote)) (Bt))
  (Ae (Ia λ G hx=>(Hh 3 (Zr) gd.nd))
  (Ae (Ia λ G hx=>(Dy gd (Yw  (by rfl) T.g_enumerate (Ag 1)) (Kg gd 4 2) (λ _ e2=>Aj (Dy gd (Yw  (by rfl) T.g_enumerate (Ag 2)) (Kg gd 5 6) (λ _ e3=>Aj (Oa 3 (hu1 gd) (SF.se (Cq (Ab (Ag 4) (Ab (Ag 5) (Ak))))) (Ag 6)))))))
  (Aj (Ia λ G hx=>(Qs 3 (Bp (Ag 3))))))))⟩
noncomputable abbrev Fz:Stmt:=top 19
theorem Ml:FnScope ["signs","flags","square","sign","way"] ["signs"] (Ai Fz):=⟨rfl,rfl,rfl,by decide +kernel,rfl,by decide +kernel,by decide +kernel⟩
theorem Mj {f:Addr}{fd:FuncData}(Dn:Dfn K mg "flags_begun" Fz f fd) (T:Txt mg) (SA:Sgn K mg) :Cal P w K mg base "flags_begun" ["signs"] 1 Bl :=
 ⟨f,fd,Dn.mg,Dn.fn.kp,Dn.fn.binds λ _ _ _ _ _ _ us hl=>by obtain⟨_,rfl⟩:=len1 hl;rfl,Eb Dn.fn Ml λ cdv A outer s H E hr gd G hx =>
  Ae (Hh 1 (Ew (Ak)) gd.nd)
  (Ae (Dy gd (Um gd (Ag 0)) (Kg gd 2 3) (λ _ e1=>Aj (Dy gd (Aiq (Cq (Ab (Ad) (Ab (Ad) (Ak))))) (Cy gd 4) (λ _ e2=>Aj (Ds (Lw gd (Aa 3) (SF.se (Afm 0 SA (by rfl) (Aa 4)))) (Aj (La 1 (Cq (Ab (Cd (Aa 2) (SF.se (Ad))) (Ab (Cd (Aa 2) (SF.se (Ad))) (Ab (Ag 4) (Ak))))))) (Bt))))))
  (Aj (Qs 1 (Bp (Ag 1)))))⟩
noncomputable abbrev Xk:Stmt:=top 20
theorem Agi:FnScope ["text","signs","square","sign","floor","flags"] ["text"] (Ai Xk):=⟨rfl,rfl,rfl,by decide +kernel,rfl,by decide +kernel,by decide +kernel⟩
theorem Afu {f:Addr}{fd:FuncData}(Dn:Dfn K mg "read" Xk f fd) (T:Txt mg) (XT:Exs K mg cFloorError cNoFloor cNoLaying cNoNote) (C_signs_by_square:CalE P w K mg base "signs_by_square" ["text"] 1 Am) (C_flags_begun:Cal P w K mg base "flags_begun" ["signs"] 1 Bl) (C_is_laying:Cal P w K mg base "is_laying" ["floor","flags"] 3 Av) (C_written:Cal P w K mg base "written" ["flags"] 2 Ce):CalE P w K mg base "read" ["text"] 4 Cu :=
 ⟨f,fd,Dn.mg,Dn.fn.kp,Dn.fn.binds λ _ _ _ _ _ _ us hl=>by obtain⟨_,rfl⟩:=len1 hl;rfl,Ac5 Dn.fn Agi λ cdv A outer s H E hr gd G lk =>
  Ae (Az 1 (Agf (x:="signs_by_square") (ps:=["text"]) (k:=1) (j:=3) (dn:=Am) (by exact C_signs_by_square) lk (by exact hr) (by decide) (by rfl) λ G hx=>(Ab (Ag 0) (Ak))) gd.nd)
  (Ae (Ia λ G hx=>(Af3 4 gd hx (Um gd (Ag 1)) (⟨Wd rfl (by decide +kernel) (by decide +kernel) (by repeat first|exact True.intro|refine And.intro (by first|(intro h;exact absurd h (by decide))|(intro _;exact Or.inl rfl)|(intro _;exact Or.inr rfl)) ?_),Ng (N:=["text","signs","square","sign","floor","flags"]) (by decide +kernel),Ac9 _ _,λ _ _ _ _=>Kg (Jw gd) 2 3,λ _ _ _ _ _ e1=>Ac3 (Ph (Jw gd) (Aa 3) (SF.se (Aae T.g_BARE (by rfl)))),λ _ _ _ _ _ e1=>Ag 2⟩)))
  (Ae (Ia λ G hx=>(Az 5 (Dh (x:="flags_begun") (ps:=["signs"]) (k:=1) (j:=3) (dn:=Bl) (by exact C_flags_begun) hx (by exact hr) (by decide) (by rfl) (Ab (Ag 1) (Ak))) gd.nd))
  (Ae (Ds (Yb λ G hx=>(SW.st (Wn (Jo (Ku (SF.se (Dh (x:="is_laying") (ps:=["floor","flags"]) (k:=3) (j:=3) (dn:=Av) (by exact C_is_laying) hx (by exact hr) (by decide) (by rfl) (Ab (Ag 4) (Ab (Ag 5) (Ak))))))) (O5 (Ph gd (SF.se (Dh (x:="written") (ps:=["flags"]) (k:=2) (j:=3) (dn:=Ce) (by exact C_written) hx (by exact hr) (by decide) (by rfl) (Ab (Ag 5) (Ak)))) (Aa 0)))))) (Aj (Ut 5 PySem.F.excBase_ValueError lk rfl rfl (by rfl) XT.m_NoNote XT.x_NoNote)) (Bt))
  (Aj (Ia λ G hx=>(Bp (Cq (Ab (Ag 4) (Ab (Ag 5) (Ak))))))))))⟩
noncomputable abbrev Gf:Stmt:=top 22
theorem Mr:FnScope ["script","k"] ["script","k"] (Ai Gf):=⟨rfl,rfl,rfl,by decide +kernel,rfl,by decide +kernel,by decide +kernel⟩
theorem Mt {f:Addr}{fd:FuncData}(Dn:Dfn K mg "_law_cell_at" Gf f fd) (T:Txt mg) :Cal P w K mg base "_law_cell_at" ["script","k"] 1 Af :=
 ⟨f,fd,Dn.mg,Dn.fn.kp,Dn.fn.binds λ _ _ _ _ _ _ us hl=>by obtain⟨_,_,rfl⟩:=len2 hl;rfl,Eb Dn.fn Mr λ cdv A outer s H E hr gd G hx =>
  Ae (Ds (Abh gd (Aa 1) (SF.se (Ij  (by rfl) T.g_len (Aa 0)))) (Aj (Bp (Cd (Aa 0) (Aa 1)))) (Bt))
  (Aj (Bp (Ad)))⟩
noncomputable abbrev Hu:Stmt:=top 23
theorem Qv:FnScope ["script","head","high","wide","top","left","number","signs","k","row","column","free","lies"] ["script"] (Ai Hu):=⟨rfl,rfl,rfl,by decide +kernel,rfl,by decide +kernel,by decide +kernel⟩
theorem Qm {f:Addr}{fd:FuncData}(Dn:Dfn K mg "_law_signs" Hu f fd) (T:Txt mg) (C_law_cell_at:Cal P w K mg base "_law_cell_at" ["script","k"] 1 Af):Cal P w K mg base "_law_signs" ["script"] 2 Bu :=
 ⟨f,fd,Dn.mg,Dn.fn.kp,Dn.fn.binds λ _ _ _ _ _ _ us hl=>by obtain⟨_,rfl⟩:=len1 hl;rfl,Eb Dn.fn Qv λ cdv A outer s H E hr gd G hx =>
  Ae (Az 1 (Dh (x:="_law_cell_at") (ps:=["script","k"]) (k:=1) (j:=1) (dn:=Af) (by exact C_law_cell_at) hx (by exact hr) (by decide) (by rfl) (Ab (Ag 0) (Ab (Ad) (Ak)))) gd.nd)
  (Ae (Az 2 (Ay (SF.se (Ad)) (SF.se (Fo (Aa 1) (SF.se (Ad))))) gd.nd)
  (Ae (Az 3 (Ay (SF.se (Ad)) (SF.se (Fo (SF.se (Ln (Aa 1) (SF.se (Ad)))) (SF.se (Ad))))) gd.nd)
  (Ae (Az 4 (Fo (SF.se (Ln (Aa 1) (SF.se (Ad)))) (SF.se (Pq (SF.se (Ad)) (Aa 2)))) gd.nd)
  (Ae (Az 5 (Fo (SF.se (Ln (Aa 1) (SF.se (Ad)))) (SF.se (Pq (SF.se (Ad)) (Aa 3)))) gd.nd)
  (Ae (Az 6 (Ay (SF.se (Ad)) (SF.se (Fo (SF.se (Dh (x:="_law_cell_at") (ps:=["script","k"]) (k:=1) (j:=1) (dn:=Af) (by exact C_law_cell_at) hx (by exact hr) (by decide) (by rfl) (Ab (Ag 0) (Ab (Ad) (Ak))))) (SF.se (Ad))))) gd.nd)
  (Ae (Hh 7 (Zr) gd.nd)
  (Ae (Dy gd (Dz  (by rfl) T.g_range (Ac6 (Aa 2) (Aa 3))) (Cy gd 8) (λ _ e1=>Ae (Az 9 (Ay (Aa 4) (SF.se (Ln (Aa 8) (Aa 3)))) gd.nd)
  (Ae (Az 10 (Ay (Aa 5) (SF.se (Fo (Aa 8) (Aa 3)))) gd.nd)
  (Ae (Az 6 (Fo (SF.se (Ac6 (Aa 6) (SF.se (Ad)))) (SF.se (Ad))) gd.nd)
  (Ae (Hh 11 (Ew (Ak)) gd.nd)
  (Ae (Ds (SW.st (Yg (Ru gd (SF.se (Cq (Ab (Ag 9) (Ab (Ag 10) (Ak))))) (Aa 7)) (Sg (Ph gd (SF.se (Fo (SF.se (Ln (Aa 6) (SF.se (Ad)))) (SF.se (Ad)))) (SF.se (Ad)))))) (Ae (Ds (SW.st (Yg (Abh gd (SF.se (Ay (Aa 10) (SF.se (Ad)))) (SF.se (Ay (Aa 5) (Aa 3)))) (Sg (Ru gd (SF.se (Cq (Ab (Ag 9) (Ab (Ay (Aa 10) (SF.se (Ad))) (Ak))))) (Aa 7))))) (Aj (La 11 (Ad))) (Bt))
  (Aj (Ds (Abh gd (SF.se (Ay (Aa 9) (SF.se (Ad)))) (SF.se (Ay (Aa 4) (Aa 2)))) (Aj (La 11 (Ad))) (Bt)))) (Bt))
  (Aj (Ds (Ahx gd (SF.se (Ij  (by rfl) T.g_len (Aa 11))) (SF.se (Ad))) (Ae (Az 12 (Cd (Aa 11) (SF.se (Fo (SF.se (Ln (Aa 6) (SF.se (Ad)))) (SF.se (Ij  (by rfl) T.g_len (Aa 11)))))) gd.nd)
  (Ae (Oa 7 (hu1 gd) (SF.se (Cq (Ab (Ag 9) (Ab (Ag 10) (Ak))))) (Cd (SN.se (Ew (Ab (En) (Ab (En) (Ak))))) (Aa 12)))
  (Aj (Oa 7 (hu1 gd) (SF.se (Cq (Ab (Ay (Aa 9) (Aa 12)) (Ab (Pq (SF.se (Ay (Aa 10) (SF.se (Ad)))) (Aa 12)) (Ak))))) (Cd (SN.se (Ew (Ab (En) (Ab (En) (Ak))))) (Aa 12)))))) (Bt)))))))))
  (Aj (Qs 7 (Bp (Ag 7)))))))))))⟩
noncomputable abbrev Hx:Stmt:=top 24
theorem Rg:FnScope ["signs","lines","row","line","column"] ["signs"] (Ai Hx):=⟨rfl,rfl,rfl,by decide +kernel,rfl,by decide +kernel,by decide +kernel⟩
theorem Qw {f:Addr}{fd:FuncData}(Dn:Dfn K mg "_law_lines" Hx f fd) (T:Txt mg) :Cal P w K mg base "_law_lines" ["signs"] 1 Bs :=
 ⟨f,fd,Dn.mg,Dn.fn.kp,Dn.fn.binds λ _ _ _ _ _ _ us hl=>by obtain⟨_,rfl⟩:=len1 hl;rfl,Eb Dn.fn Rg λ cdv A outer s H E hr gd G hx =>
  Ae (Hh 1 (Ew (Ak)) gd.nd)
  (Ae (Dy gd (Dz  (by rfl) T.g_range (Ad)) (Cy gd 2) (λ _ e1=>Ae (Az 3 (En) gd.nd)
  (Ae (Dy gd (Dz  (by rfl) T.g_range (Ad)) (Cy gd 4) (λ _ e2=>Aj (Ds (Ajk gd (SF.se (Cq (Ab (Ag 2) (Ab (Ag 4) (Ak))))) (Aa 0)) (Aj (Az 3 (Ay (Aa 3) (SF.se (Alw gd (Aa 0) (SF.se (Cq (Ab (Ag 2) (Ab (Ag 4) (Ak)))))))) gd.nd)) (Aj (Az 3 (Ay (Aa 3) (SF.se (En))) gd.nd)))))
  (Aj (La 1 (Ag 3))))))
  (Aj (Qs 1 (Bp (Ag 1)))))⟩
noncomputable abbrev Gs:Stmt:=top 25
theorem Ol:FnScope ["lines","lies","row","column","cell","line","sign"] ["lines","lies","row","column","cell"] (Ai Gs):=⟨rfl,rfl,rfl,by decide +kernel,rfl,by decide +kernel,by decide +kernel⟩
theorem Nt {f:Addr}{fd:FuncData}(Dn:Dfn K mg "_law_spoilt" Gs f fd) (T:Txt mg) :Cal P w K mg base "_law_spoilt" ["lines","lies","row","column","cell"] 1 Bw :=
 ⟨f,fd,Dn.mg,Dn.fn.kp,Dn.fn.binds λ _ _ _ _ _ _ us hl=>by obtain⟨_,_,_,_,_,rfl⟩:=Aqb hl;rfl,Eb Dn.fn Ol λ cdv A outer s H E hr gd G hx =>
  Ae (Az 5 (Cd (Aa 0) (Aa 2)) gd.nd)
  (Ae (Az 6 (Cd (SF.se (En)) (SF.se (Fo (Aa 4) (SF.se (Ad))))) gd.nd)
  (Ae (Ds (Lw gd (Aa 1) (SF.se (Ad))) (Aj (Az 5 (Ay (SF.se (Ay (SF.se (M7 (Aa 5) (Cw) (Cr (Aa 3)))) (Aa 6))) (SF.se (M7 (Aa 5) (Cr (SF.se (Ay (Aa 3) (SF.se (Ad))))) (Cw)))) gd.nd)) (Bt))
  (Ae (Ds (Lw gd (Aa 1) (SF.se (Ad))) (Aj (Az 5 (Ay (SF.se (M7 (Aa 5) (Cw) (Cr (Aa 3)))) (SF.se (M7 (Aa 5) (Cr (SF.se (Ay (Aa 3) (SF.se (Ad))))) (Cw)))) gd.nd)) (Bt))
  (Ae (Ds (Lw gd (Aa 1) (SF.se (Ad))) (Aj (Az 5 (Ay (SF.se (Ay (SF.se (M7 (Aa 5) (Cw) (Cr (Aa 3)))) (Aa 6))) (SF.se (M7 (Aa 5) (Cr (Aa 3)) (Cw)))) gd.nd)) (Bt))
  (Ae (Az 0 (Ay (SF.se (Ay (SF.se (Du (Aa 0) (Cw) (Cr (Aa 2)))) (SN.se (Ew (Ab (Ag 5) (Ak)))))) (SF.se (Du (Aa 0) (Cr (SF.se (Ay (Aa 2) (SF.se (Ad))))) (Cw)))) gd.nd)
  (Ae (Ds (Lw gd (Aa 1) (SF.se (Ad))) (Aj (Bp (Ay (SF.se (Du (Aa 0) (Cw) (Cr (Aa 2)))) (SF.se (Du (Aa 0) (Cr (SF.se (Ay (Aa 2) (SF.se (Ad))))) (Cw)))))) (Bt))
  (Ae (Ds (Lw gd (Aa 1) (SF.se (Ad))) (Aj (Bp (Ay (SF.se (Du (Aa 0) (Cw) (Cr (SF.se (Ay (Aa 2) (SF.se (Ad))))))) (SF.se (Du (Aa 0) (Cr (Aa 2)) (Cw)))))) (Bt))
  (Ae (Ds (Lw gd (Aa 1) (SF.se (Ad))) (Aj (Bp (Ay (Aa 0) (SN.se (Ew (Ab (En) (Ak))))))) (Bt))
  (Aj (Bp (Ag 0)))))))))))⟩
noncomputable abbrev Jl:Stmt:=top 26
theorem Sh:FnScope ["lines","row","column","sign","k","other"] ["lines","row","column"] (Ai Jl):=⟨rfl,rfl,rfl,by decide +kernel,rfl,by decide +kernel,by decide +kernel⟩
theorem Tw {f:Addr}{fd:FuncData}(Dn:Dfn K mg "_law_mate" Jl f fd) (T:Txt mg) :Cal P w K mg base "_law_mate" ["lines","row","column"] 1 Cj :=
 ⟨f,fd,Dn.mg,Dn.fn.kp,Dn.fn.binds λ _ _ _ _ _ _ us hl=>by obtain⟨_,_,_,rfl⟩:=Ao4 hl;rfl,Eb Dn.fn Sh λ cdv A outer s H E hr gd G hx =>
  Ae (Az 3 (Cd (SF.se (Cd (Aa 0) (Aa 1))) (Aa 2)) gd.nd)
  (Ae (Dy gd (Dz  (by rfl) T.g_range (Ad)) (Cy gd 4) (λ _ e1=>Aj (Ds (Lw gd (Aa 3) (SF.se (Cd (SF.se (En)) (Aa 4)))) (Ae (Az 5 (Cd (SN.se (Ew (Ab (Cq (Ab (Ag 1) (Ab (Ay (Aa 2) (SF.se (Ad))) (Ak)))) (Ab (Cq (Ab (Ag 1) (Ab (Pq (Aa 2) (SF.se (Ad))) (Ak)))) (Ab (Cq (Ab (Ay (Aa 1) (SF.se (Ad))) (Ab (Ag 2) (Ak)))) (Ab (Cq (Ab (Pq (Aa 1) (SF.se (Ad))) (Ab (Ag 2) (Ak)))) (Ak))))))) (Aa 4)) gd.nd)
  (Ae (Ds (Jo (SW.st (Yg (Ahm Abp T9 (SF.se (Ad)) (SF.se (Cd (Aa 5) (SF.se (Ad)))) (SF.se (Ad))) (Sg (Ahm Abp T9 (SF.se (Ad)) (SF.se (Cd (Aa 5) (SF.se (Ad)))) (SF.se (Ad))))))) (Aj (Bp (Agm))) (Bt))
  (Aj (Bp (Tj gd (SF.se (Cd (SF.se (Cd (Aa 0) (SF.se (Cd (Aa 5) (SF.se (Ad)))))) (SF.se (Cd (Aa 5) (SF.se (Ad)))))) (SF.se (Cd (SF.se (En)) (Aa 4)))))))) (Bt))))
  (Aj (Bp (Tj gd (Aa 3) (SF.se (En))))))⟩
noncomputable abbrev Hw:Stmt:=top 27
theorem Q0:FnScope ["lines","line","floor","row","column"] ["lines"] (Ai Hw):=⟨rfl,rfl,rfl,by decide +kernel,rfl,by decide +kernel,by decide +kernel⟩
theorem Pa {f:Addr}{fd:FuncData}(Dn:Dfn K mg "_law_floor" Hw f fd) (T:Txt mg) (C_law_mate:Cal P w K mg base "_law_mate" ["lines","row","column"] 1 Cj):Cal P w K mg base "_law_floor" ["lines"] 2 Ba :=
 ⟨f,fd,Dn.mg,Dn.fn.kp,Dn.fn.binds λ _ _ _ _ _ _ us hl=>by obtain⟨_,rfl⟩:=len1 hl;rfl,Eb Dn.fn Q0 λ cdv A outer s H E hr gd G hx =>
  Ae (Ds (SW.st (Wn (Ph gd (SF.se (Ij  (by rfl) T.g_len (Aa 0))) (SF.se (Ad))) (O5 (Ahx gd (SF.se (Ij  (by rfl) T.g_len (SN.se (K7 gd hx (Ib (Ag 0)) (⟨Wd rfl (by decide +kernel) (by decide +kernel) (by repeat first|exact True.intro|refine And.intro (by first|(intro h;exact absurd h (by decide))|(intro _;exact Or.inl rfl)|(intro _;exact Or.inr rfl)) ?_),Ng (N:=["lines","line","floor","row","column"]) (by decide +kernel),Ue _ ,λ _ _ _ _=>Cy (Jw gd) 1,λ _ _ _ _ _ e1=>Ac3 (Ph (Jw gd) (SF.se (Ij  (by rfl) T.g_len (Aa 1))) (SF.se (Ad))),λ _ _ _ _ _ e1=>Ag 1⟩))))) (SF.se (Ad)))))) (Aj (Bp (Ad0))) (Bt))
  (Ae (Hh 2 (Ew (Ak)) gd.nd)
  (Ae (Dy gd (Dz  (by rfl) T.g_range (Ad)) (Cy gd 3) (λ _ e2=>Aj (Dy gd (Dz  (by rfl) T.g_range (Ad)) (Cy gd 4) (λ _ e3=>Ae (Ds (Jo (Ku (SF.se (Dh (x:="_law_mate") (ps:=["lines","row","column"]) (k:=1) (j:=1) (dn:=Cj) (by exact C_law_mate) (Vu e3 (Vu e2 hx)) (by exact hr) (by decide) (by rfl) (Ab (Ag 0) (Ab (Ag 3) (Ab (Ag 4) (Ak)))))))) (Aj (Bp (Ad0))) (Bt))
  (Aj (Ds (Ph gd (SF.se (Cd (SF.se (Cd (Aa 0) (Aa 3))) (Aa 4))) (SF.se (En))) (Aj (La 2 (Cq (Ab (Ag 3) (Ab (Ag 4) (Ak)))))) (Bt)))))))
  (Aj (Qs 2 (Bp (Ag 2))))))⟩
noncomputable abbrev Jh:Stmt:=top 28
theorem Tg:FnScope ["text","e"] ["text"] (Ai Jh):=⟨rfl,rfl,rfl,by decide +kernel,rfl,by decide +kernel,by decide +kernel⟩
theorem Ss {f:Addr}{fd:FuncData}(Dn:Dfn K mg "_law_told" Jh f fd) (T:Txt mg) (XT:Exs K mg cFloorError cNoFloor cNoLaying cNoNote) (C_read:CalE P w K mg base "read" ["text"] 4 Cu):Cal P w K mg base "_law_told" ["text"] 5 Bo :=
 ⟨f,fd,Dn.mg,Dn.fn.kp,Dn.fn.binds λ _ _ _ _ _ _ us hl=>by obtain⟨_,rfl⟩:=len1 hl;rfl,Eb Dn.fn Tg λ cdv A outer s H E hr gd G hx =>
  Aj (Ahi (i:=1) (D:=cFloorError) (Ai4 (x:="read") (ps:=["text"]) (k:=4) (j:=4) (dn:=Cu) (by exact C_read) (by exact hr) (by decide) (by rfl) λ G hx=>(Ab (Ag 0) (Ak)))
  ⟨λ c d C e o vs h1 h2 h3 h4=>by rcases Mu h1 with ⟨rfl,rfl⟩<;>first|(obtain rfl:=Value.ref.inj (Option.some.inj (h2.symm.trans XT.m_NoNote));exact⟨XT.s_NoNote_FloorError,.int 0,Aie (Ah1 (b:=false) (b':=false) (b'':=false) (Ze (Yz ⟨o,vs,.head _,h3,h4⟩ XT.t_NoNote.toXCls (by rfl) T.g_isinstance (by rfl) XT.m_NoFloor XT.k_NoNote_NoFloor)) (Ze (Yz ⟨o,vs,.head _,h3,h4⟩ XT.t_NoNote.toXCls (by rfl) T.g_isinstance (by rfl) XT.m_NoLaying XT.k_NoNote_NoLaying)) (Ahn (b:=true) (Ze (Yz ⟨o,vs,.head _,h3,h4⟩ XT.t_NoNote.toXCls (by rfl) T.g_isinstance (by rfl) XT.m_NoNote XT.k_NoNote_NoNote)))) (Aiu (Ab5 (b:=false) (by rfl) T.g_int (Ahk (b:=true) (Aj5 "ValueError" ⟨o,vs,.head _,h3,h4⟩ XT.t_NoNote.toXCls (by rfl) T.g_isinstance (by rfl) T.g_ValueError XT.b_NoNote_ValueError)))),λ K H O=>by unfold Rp;rfl⟩)⟩
  gd.nd rfl rfl (by rfl) XT.m_FloorError XT.t_FloorError)⟩
noncomputable abbrev Afp:Stmt:=top 29
theorem Ahd:FnScope ["script","lines","place","floor","found","flags","square","sign"] ["script"] (Ai Afp):=⟨rfl,rfl,rfl,by decide +kernel,rfl,by decide +kernel,by decide +kernel⟩
theorem Aen {f:Addr}{fd:FuncData}(Dn:Dfn K mg "law" Afp f fd) (T:Txt mg) (C_law_lines:Cal P w K mg base "_law_lines" ["signs"] 1 Bs) (C_law_signs:Cal P w K mg base "_law_signs" ["script"] 2 Bu) (C_law_cell_at:Cal P w K mg base "_law_cell_at" ["script","k"] 1 Af) (C_law_spoilt:Cal P w K mg base "_law_spoilt" ["lines","lies","row","column","cell"] 1 Bw) (C_law_floor:Cal P w K mg base "_law_floor" ["lines"] 2 Ba) (C_law_told:Cal P w K mg base "_law_told" ["text"] 5 Bo):FnOk P w K mg base CX0 6 f fd ["script"] (spD K 1 Lx):=Eb Dn.fn Ahd λ cdv A outer s H E hr gd G hx =>
  Ae (Az 1 (Dh (x:="_law_lines") (ps:=["signs"]) (k:=1) (j:=5) (dn:=Bs) (by exact C_law_lines) hx (by exact hr) (by decide) (by rfl) (Ab (Dh (x:="_law_signs") (ps:=["script"]) (k:=2) (j:=5) (dn:=Bu) (by exact C_law_signs) hx (by exact hr) (by decide) (by rfl) (Ab (Ag 0) (Ak))) (Ak))) gd.nd)
  (Ae (Az 2 (Fo (SF.se (Dh (x:="_law_cell_at") (ps:=["script","k"]) (k:=1) (j:=5) (dn:=Af) (by exact C_law_cell_at) hx (by exact hr) (by decide) (by rfl) (Ab (Ag 0) (Ab (Ad) (Ak))))) (SF.se (Ad))) gd.nd)
  (Ae (Az 1 (Dh (x:="_law_spoilt") (ps:=["lines","lies","row","column","cell"]) (k:=1) (j:=5) (dn:=Bw) (by exact C_law_spoilt) hx (by exact hr) (by decide) (by rfl) (Ab (Ag 1) (Ab (Fo (SF.se (Dh (x:="_law_cell_at") (ps:=["script","k"]) (k:=1) (j:=5) (dn:=Af) (by exact C_law_cell_at) hx (by exact hr) (by decide) (by rfl) (Ab (Ag 0) (Ab (Ad) (Ak))))) (SF.se (Ad))) (Ab (Ln (Aa 2) (SF.se (Ad))) (Ab (Fo (Aa 2) (SF.se (Ad))) (Ab (Dh (x:="_law_cell_at") (ps:=["script","k"]) (k:=1) (j:=5) (dn:=Af) (by exact C_law_cell_at) hx (by exact hr) (by decide) (by rfl) (Ab (Ag 0) (Ab (Ad) (Ak)))) (Ak))))))) gd.nd)
  (Ae (Az 3 (Dh (x:="_law_floor") (ps:=["lines"]) (k:=2) (j:=5) (dn:=Ba) (by exact C_law_floor) hx (by exact hr) (by decide) (by rfl) (Ab (Ag 1) (Ak))) gd.nd)
  (Ae (Az 4 (Dh (x:="_law_told") (ps:=["text"]) (k:=5) (j:=5) (dn:=Bo) (by exact C_law_told) hx (by exact hr) (by decide) (by rfl) (Ab (R3 (Aa 1)) (Ak))) gd.nd)
  (Ae (Ds (Ah2 (Aa 3)) (Aj (Bp (Q8 (Ve .int  (by rfl) T.g_isinstance  (by rfl) T.g_int (Aa 4)) (Ux (Tj gd (Aa 4) (SF.se (Ad))))))) (Bt))
  (Ae (Ds (SW.st (Wn (Jo (Ku (SF.se (Ve .tuple  (by rfl) T.g_isinstance  (by rfl) T.g_tuple (Aa 4))))) (Wn (Ph gd (SF.se (Ij  (by rfl) T.g_len (Aa 4))) (SF.se (Ad))) (O5 (Jo (Ku (SF.se (Ve .list  (by rfl) T.g_isinstance  (by rfl) T.g_list (SF.se (Cd (Aa 4) (SF.se (Ad)))))))))))) (Aj (Bp (Agm))) (Bt))
  (Ae (Hh 5 (Ew (Ak)) gd.nd)
  (Ae (Dy gd (Ib (Ag 3)) (Cy gd 6) (λ _ e1=>Ae (Az 7 (Cd (SF.se (Cd (Aa 1) (SF.se (Cd (Aa 6) (SF.se (Ad)))))) (SF.se (Cd (Aa 6) (SF.se (Ad))))) gd.nd)
  (Aj (Ds (SW.st (Wn (Lw gd (Aa 7) (SF.se (En))) (O5 (Lw gd (Aa 7) (SF.se (En)))))) (Aj (La 5 (Cq (Ab (Cd (Aa 6) (SF.se (Ad))) (Ab (Cd (Aa 6) (SF.se (Ad))) (Ab (Abj  (by rfl) T.g_int (SF.se (Tj gd (Aa 7) (SF.se (En))))) (Ak))))))) (Bt)))))
  (Aj (Bp (Q8 (Tj gd (SF.se (Cd (Aa 4) (SF.se (Ad)))) (Aa 3)) (Q8 (Ve .list  (by rfl) T.g_isinstance  (by rfl) T.g_list (SF.se (Cd (Aa 4) (SF.se (Ad))))) (Ux (Tj gd (SF.se (Cd (Aa 4) (SF.se (Ad)))) (Aa 5)))))))))))))))
theorem law_F {h:Heap}{fa:Addr}(KX:K.In h) (GX:h.Ns mainGlobals mg) (hfa:mg "law"=some (.ref fa))
  (e_on_board:∃ f,Ent K "on_board" Jg f)
  (e_check_floor:∃ f,Ent K "check_floor" Gg f)
  (e_squares_under:∃ f,Ent K "squares_under" Eo f)
  (e_are_in_order:∃ f,Ent K "are_in_order" Fi f)
  (e_all_under:∃ f,Ent K "all_under" Ho f)
  (e_is_laying:∃ f,Ent K "is_laying" Hl f)
  (e_written:∃ f,Ent K "written" Lg f)
  (e_signs_by_square:∃ f,Ent K "signs_by_square" Dr f)
  (e_flags_begun:∃ f,Ent K "flags_begun" Fz f)
  (e_read:∃ f,Ent K "read" Xk f)
  (e_law_cell_at:∃ f,Ent K "_law_cell_at" Gf f)
  (e_law_signs:∃ f,Ent K "_law_signs" Hu f)
  (e_law_lines:∃ f,Ent K "_law_lines" Hx f)
  (e_law_spoilt:∃ f,Ent K "_law_spoilt" Gs f)
  (e_law_mate:∃ f,Ent K "_law_mate" Jl f)
  (e_law_floor:∃ f,Ent K "_law_floor" Hw f)
  (e_law_told:∃ f,Ent K "_law_told" Jh f)
  (e_law:∃ f,Ent K "law" Afp f)
  (z_SIDE:∃ t,PySem.W.nsIn K mainGlobals "SIDE"=some (some (.int 8 t)))
  (z_zip:PySem.W.nsIn K mainGlobals "zip"=some none)
  (z_all:PySem.W.nsIn K mainGlobals "all"=some none)
  (z_sorted:PySem.W.nsIn K mainGlobals "sorted"=some none)
  (z_range:PySem.W.nsIn K mainGlobals "range"=some none)
  (z_BARE:∃ t,PySem.W.nsIn K mainGlobals "BARE"=some (some (.str "." t)))
  (z_len:PySem.W.nsIn K mainGlobals "len"=some none)
  (z_any:PySem.W.nsIn K mainGlobals "any"=some none)
  (z_enumerate:PySem.W.nsIn K mainGlobals "enumerate"=some none)
  (z_isinstance:PySem.W.nsIn K mainGlobals "isinstance"=some none)
  (z_ValueError:PySem.W.nsIn K mainGlobals "ValueError"=some none)
  (z_int:PySem.W.nsIn K mainGlobals "int"=some none)
  (z_tuple:PySem.W.nsIn K mainGlobals "tuple"=some none)
  (z_list:PySem.W.nsIn K mainGlobals "list"=some none)
  {aG aG0 aG1:Addr} {dG dG0 dG1:Option Addr} {nG nG0 nG1:Nat} {slG slG0 slG1:Array (Option Value)} {tG0 tG1 tG2 tG3:PySem.Tok} (n_SIGNS:PySem.W.nsIn K mainGlobals "SIGNS"=some (some (.ref aG))) (l_SIGNS:K.lookup aG=some ⟨.type "tuple",dG,.seq #[.ref aG0,.ref aG1] nG,slG⟩) (l0_SIGNS:K.lookup aG0=some ⟨.type "tuple",dG0,.seq #[.str "<" tG0,.str ">" tG1] nG0,slG0⟩) (l1_SIGNS:K.lookup aG1=some ⟨.type "tuple",dG1,.seq #[.str "^" tG2,.str "v" tG3] nG1,slG1⟩)
  (n_FloorError:PySem.W.nsIn K mainGlobals "FloorError"=some (some (.ref cFloorError))) (t_FloorError:XTop K cFloorError)
  (n_NoFloor:PySem.W.nsIn K mainGlobals "NoFloor"=some (some (.ref cNoFloor))) (t_NoFloor:XTop K cNoFloor)
  (n_NoLaying:PySem.W.nsIn K mainGlobals "NoLaying"=some (some (.ref cNoLaying))) (t_NoLaying:XTop K cNoLaying)
  (n_NoNote:PySem.W.nsIn K mainGlobals "NoNote"=some (some (.ref cNoNote))) (t_NoNote:XTop K cNoNote)
  (x_NoNote:PySem.W.excIn K cNoNote [.type "ValueError",.type "Exception",.type "BaseException",.type "object"] "ValueError.__new__"=true)
  (s_NoNote_FloorError:PySem.W.mroIn K cNoNote (.ref cFloorError)=some true)
  (ne_k_NoNote_NoFloor:cNoNote≠cNoFloor) (k_NoNote_NoFloor:PySem.W.mroIn K cNoNote (.ref cNoFloor)=some false)
  (ne_k_NoNote_NoLaying:cNoNote≠cNoLaying) (k_NoNote_NoLaying:PySem.W.mroIn K cNoNote (.ref cNoLaying)=some false)
  (b_NoNote_ValueError:PySem.W.mroIn K cNoNote (.type "ValueError")=some true)
 :∃ fd:FuncData,(∀ (s:Shared) (v:Value),BindsTo s fd ⟨[v],[]⟩ [("script",v)])/\∀ base:Heap,K.In base->base.Ns mainGlobals mg->FnOk P w K mg base CX0 6 fa fd ["script"] (spD K 1 Lx):=by
 obtain⟨f_on_board,e_on_board⟩:=e_on_board
 obtain⟨fd_on_board,d_on_board⟩:=e_on_board.dfn KX GX
 obtain⟨f_check_floor,e_check_floor⟩:=e_check_floor
 obtain⟨fd_check_floor,d_check_floor⟩:=e_check_floor.dfn KX GX
 obtain⟨f_squares_under,e_squares_under⟩:=e_squares_under
 obtain⟨fd_squares_under,d_squares_under⟩:=e_squares_under.dfn KX GX
 obtain⟨f_are_in_order,e_are_in_order⟩:=e_are_in_order
 obtain⟨fd_are_in_order,d_are_in_order⟩:=e_are_in_order.dfn KX GX
 obtain⟨f_all_under,e_all_under⟩:=e_all_under
 obtain⟨fd_all_under,d_all_under⟩:=e_all_under.dfn KX GX
 obtain⟨f_is_laying,e_is_laying⟩:=e_is_laying
 obtain⟨fd_is_laying,d_is_laying⟩:=e_is_laying.dfn KX GX
 obtain⟨f_written,e_written⟩:=e_written
 obtain⟨fd_written,d_written⟩:=e_written.dfn KX GX
 obtain⟨f_signs_by_square,e_signs_by_square⟩:=e_signs_by_square
 obtain⟨fd_signs_by_square,d_signs_by_square⟩:=e_signs_by_square.dfn KX GX
 obtain⟨f_flags_begun,e_flags_begun⟩:=e_flags_begun
 obtain⟨fd_flags_begun,d_flags_begun⟩:=e_flags_begun.dfn KX GX
 obtain⟨f_read,e_read⟩:=e_read
 obtain⟨fd_read,d_read⟩:=e_read.dfn KX GX
 obtain⟨f_law_cell_at,e_law_cell_at⟩:=e_law_cell_at
 obtain⟨fd_law_cell_at,d_law_cell_at⟩:=e_law_cell_at.dfn KX GX
 obtain⟨f_law_signs,e_law_signs⟩:=e_law_signs
 obtain⟨fd_law_signs,d_law_signs⟩:=e_law_signs.dfn KX GX
 obtain⟨f_law_lines,e_law_lines⟩:=e_law_lines
 obtain⟨fd_law_lines,d_law_lines⟩:=e_law_lines.dfn KX GX
 obtain⟨f_law_spoilt,e_law_spoilt⟩:=e_law_spoilt
 obtain⟨fd_law_spoilt,d_law_spoilt⟩:=e_law_spoilt.dfn KX GX
 obtain⟨f_law_mate,e_law_mate⟩:=e_law_mate
 obtain⟨fd_law_mate,d_law_mate⟩:=e_law_mate.dfn KX GX
 obtain⟨f_law_floor,e_law_floor⟩:=e_law_floor
 obtain⟨fd_law_floor,d_law_floor⟩:=e_law_floor.dfn KX GX
 obtain⟨f_law_told,e_law_told⟩:=e_law_told
 obtain⟨fd_law_told,d_law_told⟩:=e_law_told.dfn KX GX
 obtain⟨f_law,e_law⟩:=e_law
 obtain⟨fd_law,d_law⟩:=e_law.dfn KX GX
 obtain⟨t_SIDE,z_SIDE⟩:=z_SIDE
 obtain⟨t_BARE,z_BARE⟩:=z_BARE
 have T:Txt mg:=⟨⟨_,PySem.W.mg_of KX GX z_SIDE⟩,PySem.W.mg_none_of KX GX z_zip,PySem.W.mg_none_of KX GX z_all,PySem.W.mg_none_of KX GX z_sorted,PySem.W.mg_none_of KX GX z_range,⟨_,PySem.W.mg_of KX GX z_BARE⟩,PySem.W.mg_none_of KX GX z_len,PySem.W.mg_none_of KX GX z_any,PySem.W.mg_none_of KX GX z_enumerate,PySem.W.mg_none_of KX GX z_isinstance,PySem.W.mg_none_of KX GX z_ValueError,PySem.W.mg_none_of KX GX z_int,PySem.W.mg_none_of KX GX z_tuple,PySem.W.mg_none_of KX GX z_list⟩
 have SA:Sgn K mg:=Acw KX GX n_SIGNS l_SIGNS l0_SIGNS l1_SIGNS
 have XT:Exs K mg cFloorError cNoFloor cNoLaying cNoNote:=⟨PySem.W.mg_of KX GX n_NoNote,PySem.W.mg_of KX GX n_NoFloor,PySem.W.mg_of KX GX n_NoLaying,PySem.W.mg_of KX GX n_FloorError,t_NoNote,t_FloorError,t_NoFloor,t_NoLaying,x_NoNote,s_NoNote_FloorError,Xh t_NoFloor ne_k_NoNote_NoFloor k_NoNote_NoFloor,Xh t_NoLaying ne_k_NoNote_NoLaying k_NoNote_NoLaying,Abe,Ae6 "ValueError" (by decide +kernel) b_NoNote_ValueError⟩
 refine Af6 hfa d_law (Fun.one d_law.fn λ _ _ _ _ _ _ _=>rfl) λ base=>?_
 have C_law_lines:Cal P w K mg base "_law_lines" ["signs"] 1 Bs:=Qw d_law_lines T
 have C_law_cell_at:Cal P w K mg base "_law_cell_at" ["script","k"] 1 Af:=Mt d_law_cell_at T
 have C_law_signs:Cal P w K mg base "_law_signs" ["script"] 2 Bu:=Qm d_law_signs T C_law_cell_at
 have C_law_spoilt:Cal P w K mg base "_law_spoilt" ["lines","lies","row","column","cell"] 1 Bw:=Nt d_law_spoilt T
 have C_law_mate:Cal P w K mg base "_law_mate" ["lines","row","column"] 1 Cj:=Tw d_law_mate T
 have C_law_floor:Cal P w K mg base "_law_floor" ["lines"] 2 Ba:=Pa d_law_floor T C_law_mate
 have C_signs_by_square:CalE P w K mg base "signs_by_square" ["text"] 1 Am:=Ir d_signs_by_square T XT
 have C_flags_begun:Cal P w K mg base "flags_begun" ["signs"] 1 Bl:=Mj d_flags_begun T SA
 have C_on_board:Cal P w K mg base "on_board" ["square"] 1 Dc:=R4 d_on_board T
 have C_check_floor:Cal P w K mg base "check_floor" ["floor"] 2 Bm:=Mv d_check_floor T C_on_board
 have C_are_in_order:Cal P w K mg base "are_in_order" ["flags"] 1 Bd:=Mf d_are_in_order T
 have C_squares_under:Cal P w K mg base "squares_under" ["flag"] 1 Al:=Jv d_squares_under T
 have C_all_under:Cal P w K mg base "all_under" ["flags"] 2 Ck:=Qp d_all_under T C_squares_under
 have C_is_laying:Cal P w K mg base "is_laying" ["floor","flags"] 3 Av:=Pn d_is_laying T C_check_floor C_are_in_order C_all_under
 have C_written:Cal P w K mg base "written" ["flags"] 2 Ce:=Wo d_written T SA C_squares_under
 have C_read:CalE P w K mg base "read" ["text"] 4 Cu:=Afu d_read T XT C_signs_by_square C_flags_begun C_is_laying C_written
 have C_law_told:Cal P w K mg base "_law_told" ["text"] 5 Bo:=Ss d_law_told T XT C_read
 exact Aen d_law T C_law_lines C_law_signs C_law_cell_at C_law_spoilt C_law_floor C_law_told
end
theorem walk {l:PySem.W.OpenLaw}{q:Program}{loose:List Str}{XP:(Str->Option Value)->Heap->Prop}{YP:World->Heap->Prop}{d:DefRec}{K:Params->PySem.W.Frag}(hn:l.most=some 63) (hdf:d.params.defaults=[])
  (hY:∀ (w:World) (h:Heap),YP w h->(K w.params).In h) (hm:∀ ns:List Int,ns.length<=63->Lx [.scr ns]=.ok (.bl true))
  (F:∀ (w:World) (mg:Str->Option Value) (fa:Addr) (h:Heap),(K w.params).In h->h.Ns mainGlobals mg->mg d.name=some (.ref fa) →
   ∃ fd:FuncData,(∀ (s:Shared) (u:Value),BindsTo s fd ⟨[u],[]⟩ [("script",u)])/\∀ base:Heap,(K w.params).In base->base.Ns mainGlobals mg->FnOk l.prog w (K w.params) mg base CX0 6 fa fd ["script"] (spD (K w.params) 1 Lx)) :
  PySem.W.WalkO q loose XP YP l.row.toRowW d [] (λ f vs=>PySem.call f vs) :=
 L2.walk_ofK (n:=63) (k:=6) (x:="script") (CX:=CX0) (sp:=λ K=>spD K 1 Lx) hn (by decide) hdf ⟨rfl,by decide,by decide⟩ hY F (λ K H a ns hl _ hS=>Ajx hl hS hm) λ _ _ _ _ z=>z
end M

set_option Elab.async false
set_option linter.all false
open PySem PySem.W PyProof.Rows
noncomputable def PySem.W.Fast.tw8053489193297013851:PySem.Program:=PySem.Challenge.pw_flagfloor_k17_read_or_refused
theorem PySem.W.Fast.te8053489193297013851:PySem.Challenge.pw_flagfloor_k17_read_or_refused=PySem.W.Fast.tw8053489193297013851:=rfl
set_option maxRecDepth 100000 in
set_option maxHeartbeats 0 in
theorem PySem.Challenge.cw_flagfloor_k17_read_or_refused_holds : PySem.Challenge.rw_flagfloor_k17_read_or_refused.Holds := by
 w_on;o_law;k_head;(case hw=>w_witness2)
 k_fill
 refine M.walk (l:=PySem.Challenge.rw_flagfloor_k17_read_or_refused) rfl rfl (λ w h Y=>PySem.W.kIn_of Y) M.law_true ?F
 case F =>
  intro w mg fa h KX GX hmg
  refine' M.law_F KX GX hmg
   (M.ent_ex KX ?a_on_board ?l_on_board ?c_on_board ?k_on_board)
   (M.ent_ex KX ?a_check_floor ?l_check_floor ?c_check_floor ?k_check_floor)
   (M.ent_ex KX ?a_squares_under ?l_squares_under ?c_squares_under ?k_squares_under)
   (M.ent_ex KX ?a_are_in_order ?l_are_in_order ?c_are_in_order ?k_are_in_order)
   (M.ent_ex KX ?a_all_under ?l_all_under ?c_all_under ?k_all_under)
   (M.ent_ex KX ?a_is_laying ?l_is_laying ?c_is_laying ?k_is_laying)
   (M.ent_ex KX ?a_written ?l_written ?c_written ?k_written)
   (M.ent_ex KX ?a_signs_by_square ?l_signs_by_square ?c_signs_by_square ?k_signs_by_square)
   (M.ent_ex KX ?a_flags_begun ?l_flags_begun ?c_flags_begun ?k_flags_begun)
   (M.ent_ex KX ?a_read ?l_read ?c_read ?k_read)
   (M.ent_ex KX ?a_law_cell_at ?l_law_cell_at ?c_law_cell_at ?k_law_cell_at)
   (M.ent_ex KX ?a_law_signs ?l_law_signs ?c_law_signs ?k_law_signs)
   (M.ent_ex KX ?a_law_lines ?l_law_lines ?c_law_lines ?k_law_lines)
   (M.ent_ex KX ?a_law_spoilt ?l_law_spoilt ?c_law_spoilt ?k_law_spoilt)
   (M.ent_ex KX ?a_law_mate ?l_law_mate ?c_law_mate ?k_law_mate)
   (M.ent_ex KX ?a_law_floor ?l_law_floor ?c_law_floor ?k_law_floor)
   (M.ent_ex KX ?a_law_told ?l_law_told ?c_law_told ?k_law_told)
   (M.ent_ex KX ?a_law ?l_law ?c_law ?k_law)
   (M.int_ex KX ?z_SIDE)
   ?z_zip
   ?z_all
   ?z_sorted
   ?z_range
   (M.str_ex KX ?z_BARE)
   ?z_len
   ?z_any
   ?z_enumerate
   ?z_isinstance
   ?z_ValueError
   ?z_int
   ?z_tuple
   ?z_list
   ?n_SIGNS ?l_SIGNS ?l0_SIGNS ?l1_SIGNS
   ?n_FloorError (M.xtop_mk ?ga_FloorError ?gn_FloorError ?cl_FloorError ?be_FloorError ?ob_FloorError ?ty_FloorError)
   ?n_NoFloor (M.xtop_mk ?ga_NoFloor ?gn_NoFloor ?cl_NoFloor ?be_NoFloor ?ob_NoFloor ?ty_NoFloor)
   ?n_NoLaying (M.xtop_mk ?ga_NoLaying ?gn_NoLaying ?cl_NoLaying ?be_NoLaying ?ob_NoLaying ?ty_NoLaying)
   ?n_NoNote (M.xtop_mk ?ga_NoNote ?gn_NoNote ?cl_NoNote ?be_NoNote ?ob_NoNote ?ty_NoNote)
   ?x_NoNote
   ?s_NoNote_FloorError
   ?ne_k_NoNote_NoFloor ?k_NoNote_NoFloor
   ?ne_k_NoNote_NoLaying ?k_NoNote_NoLaying
   ?b_NoNote_ValueError
  (case n_SIGNS=>k_is);(case l_SIGNS=>k_is);(case l0_SIGNS=>k_is);(case l1_SIGNS=>k_is)
  (case n_FloorError=>k_is)
  (case n_NoFloor=>k_is)
  (case n_NoLaying=>k_is)
  (case n_NoNote=>k_is)
  (case ga_FloorError=>k_is);(case gn_FloorError=>k_is);(case cl_FloorError=>k_is);(case be_FloorError=>k_is);(case ob_FloorError=>k_is);(case ty_FloorError=>k_is)
  (case ga_NoFloor=>k_is);(case gn_NoFloor=>k_is);(case cl_NoFloor=>k_is);(case be_NoFloor=>k_is);(case ob_NoFloor=>k_is);(case ty_NoFloor=>k_is)
  (case ga_NoLaying=>k_is);(case gn_NoLaying=>k_is);(case cl_NoLaying=>k_is);(case be_NoLaying=>k_is);(case ob_NoLaying=>k_is);(case ty_NoLaying=>k_is)
  (case ga_NoNote=>k_is);(case gn_NoNote=>k_is);(case cl_NoNote=>k_is);(case be_NoNote=>k_is);(case ob_NoNote=>k_is);(case ty_NoNote=>k_is)
  (case x_NoNote=>k_exc)
  (case s_NoNote_FloorError=>k_is)
  (case ne_k_NoNote_NoFloor=>decide);(case k_NoNote_NoFloor=>k_is)
  (case ne_k_NoNote_NoLaying=>decide);(case k_NoNote_NoLaying=>k_is)
  (case b_NoNote_ValueError=>k_is)
  (case a_on_board=>k_is);(case l_on_board=>k_is);(case c_on_board=>k_is);(case k_on_board=>k_is)
  (case a_check_floor=>k_is);(case l_check_floor=>k_is);(case c_check_floor=>k_is);(case k_check_floor=>k_is)
  (case a_squares_under=>k_is);(case l_squares_under=>k_is);(case c_squares_under=>k_is);(case k_squares_under=>k_is)
  (case a_are_in_order=>k_is);(case l_are_in_order=>k_is);(case c_are_in_order=>k_is);(case k_are_in_order=>k_is)
  (case a_all_under=>k_is);(case l_all_under=>k_is);(case c_all_under=>k_is);(case k_all_under=>k_is)
  (case a_is_laying=>k_is);(case l_is_laying=>k_is);(case c_is_laying=>k_is);(case k_is_laying=>k_is)
  (case a_written=>k_is);(case l_written=>k_is);(case c_written=>k_is);(case k_written=>k_is)
  (case a_signs_by_square=>k_is);(case l_signs_by_square=>k_is);(case c_signs_by_square=>k_is);(case k_signs_by_square=>k_is)
  (case a_flags_begun=>k_is);(case l_flags_begun=>k_is);(case c_flags_begun=>k_is);(case k_flags_begun=>k_is)
  (case a_read=>k_is);(case l_read=>k_is);(case c_read=>k_is);(case k_read=>k_is)
  (case a_law_cell_at=>k_is);(case l_law_cell_at=>k_is);(case c_law_cell_at=>k_is);(case k_law_cell_at=>k_is)
  (case a_law_signs=>k_is);(case l_law_signs=>k_is);(case c_law_signs=>k_is);(case k_law_signs=>k_is)
  (case a_law_lines=>k_is);(case l_law_lines=>k_is);(case c_law_lines=>k_is);(case k_law_lines=>k_is)
  (case a_law_spoilt=>k_is);(case l_law_spoilt=>k_is);(case c_law_spoilt=>k_is);(case k_law_spoilt=>k_is)
  (case a_law_mate=>k_is);(case l_law_mate=>k_is);(case c_law_mate=>k_is);(case k_law_mate=>k_is)
  (case a_law_floor=>k_is);(case l_law_floor=>k_is);(case c_law_floor=>k_is);(case k_law_floor=>k_is)
  (case a_law_told=>k_is);(case l_law_told=>k_is);(case c_law_told=>k_is);(case k_law_told=>k_is)
  (case a_law=>k_is);(case l_law=>k_is);(case c_law=>k_is);(case k_law=>k_is)
  (case z_SIDE=>k_is)
  (case z_zip=>k_is)
  (case z_all=>k_is)
  (case z_sorted=>k_is)
  (case z_range=>k_is)
  (case z_BARE=>k_is)
  (case z_len=>k_is)
  (case z_any=>k_is)
  (case z_enumerate=>k_is)
  (case z_isinstance=>k_is)
  (case z_ValueError=>k_is)
  (case z_int=>k_is)
  (case z_tuple=>k_is)
  (case z_list=>k_is)

