import PyProof.Rows.All
import Wide.All
import OpenK.AllK
import Wide.FinOn
import Lean
import PyProof.EqAt
import PyProof.EqKinds
import PyProof.TupleCall
import PySem.Challenge.RW_flagfloor_k18_which_refusal
noncomputable section
set_option bootstrap.genMatcherCode false
set_option compiler.extract_closed false
set_option Elab.async false
set_option linter.all false
set_option maxRecDepth 100000
local macro_rules | `(tactic| omega) => `(tactic| lia)
namespace L2
open PySem PySem.Spec PyProof.Rows
abbrev Key:=Sum Int Str
noncomputable def Ace:Key->Value->Bool
 | .inl k,v=>Value.isInt k v
 | .inr x,v=>Value.isStrOf x v
noncomputable def Aw8 (w:World):Key->Int
 | .inl k=>hashInt k
 | .inr x=>hashStr w x
theorem Dd:∀ {k:Key}{v:Value},Ace k v=true->(∃ i t,k=Sum.inl i/\v=Value.int i t)\/(∃ x t,k=Sum.inr x/\v=Value.str x t)
 | .inl i,v,h=>by
  obtain⟨t,e⟩:=Value.isInt_shape (k:=i) (v:=v) h
  exact .inl ⟨i,t,rfl,e⟩
 | .inr x,v,h=>by
  obtain⟨t,e⟩:=Value.isStrOf_shape (x:=x) (v:=v) h
  exact .inr ⟨x,t,rfl,e⟩
theorem Ae1 (i:Int) (t:Tok):Ace (.inl i) (.int i t)=true:=by simp [Ace,Value.isInt]
theorem Af5 (x:Str) (t:Tok):Ace (.inr x) (.str x t)=true:=by simp [Ace,Value.isStrOf]
theorem Aql (a b:Int):decide ((Sum.inl a:Key)=Sum.inl b)=(a == b):=by
 by_cases e:a=b
 ·subst e;simp
 ·have h:¬ (Sum.inl a:Key)=Sum.inl b:=λ q=>e (Sum.inl.inj q)
  rw [decide_eq_false h]
  exact (beq_eq_false_iff_ne.mpr e).symm
theorem Ann (a b:Str):decide ((Sum.inr a:Key)=Sum.inr b)=decide (a=b):=by
 by_cases e:a=b
 ·subst e;simp
 ·have h:¬ (Sum.inr a:Key)=Sum.inr b:=λ q=>e (Sum.inr.inj q)
  rw [decide_eq_false h,decide_eq_false e]
theorem Aq6 (a:Int) (b:Str):decide ((Sum.inl a:Key)=Sum.inr b)=false:=decide_eq_false (λ q=>nomatch q)
theorem Ani (a:Str) (b:Int):decide ((Sum.inr a:Key)=Sum.inl b)=false:=decide_eq_false (λ q=>nomatch q)
noncomputable def Cr (prog:Program) (w:World):PySem.KeyKind prog w Key where
 is:=Ace
 hash:=Aw8 w
 inj:=λ v a b ha hb=>by
  rcases Dd ha with ⟨i,t,rfl,rfl⟩|⟨x,t,rfl,rfl⟩
  ·rcases Dd hb with ⟨j,u,rfl,e⟩|⟨y,u,rfl,e⟩
   ·injection e with e1 _;rw [e1]
   ·exact nomatch e
  ·rcases Dd hb with ⟨j,u,rfl,e⟩|⟨y,u,rfl,e⟩
   ·exact nomatch e
   ·injection e with e1 _;rw [e1]
 byValue:=λ k v h=>by
  rcases Dd h with ⟨i,t,rfl,rfl⟩|⟨x,t,rfl,rfl⟩<;>rfl
 pyHash:=λ hv h=>by
  rcases Dd hv with ⟨i,t,rfl,rfl⟩|⟨x,t,rfl,rfl⟩
  ·exact wpAny_pyHash_int h
  ·exact wpAny_pyHash_str h
 eqBool:=λ hu hv h=>by
  rcases Dd hu with ⟨i,t,rfl,rfl⟩|⟨x,t,rfl,rfl⟩
  ·rcases Dd hv with ⟨j,u,rfl,rfl⟩|⟨y,u,rfl,rfl⟩
   ·rw [Aql] at h;exact wpAny_eqBool_int h
   ·rw [Aq6] at h;exact SeqAt.EqAt.int_str i t y u _ _ _ _ h
  ·rcases Dd hv with ⟨j,u,rfl,rfl⟩|⟨y,u,rfl,rfl⟩
   ·rw [Ani] at h;exact SeqAt.EqAt.str_int x t j u _ _ _ _ h
   ·rw [Ann] at h;exact wpAny_eqBool_str h
 «strs»:=λ k x t v h=>by
  rcases Dd h with ⟨i,u,rfl,e⟩|⟨y,u,rfl,e⟩
  ·exact nomatch e
  ·injection e with e1 _
   subst e1
   cases v<;>rfl
theorem X7 (prog:Program) (w:World) (i:Int) (t:Tok):(Cr prog w).is (.inl i) (.int i t)=true:=Ae1 i t
theorem Xv (prog:Program) (w:World) (x:Str) (t:Tok):(Cr prog w).is (.inr x) (.str x t)=true:=Af5 x t
end L2
namespace L2
open PySem PySem.Spec PyProof.Rows
inductive V where
 | non|bl (b:Bool)|int (i:Int)|str (x:Str)|byt (b:Array UInt8)|flt (b:UInt64)|ref (a:Addr)|ty (n:String)
 deriving DecidableEq
noncomputable def RelV:V->Value->Prop
 | .non,u=>u=Value.none
 | .bl b,u=>u=Value.bool b
 | .int i,u=>∃ t,u=Value.int i t
 | .str x,u=>∃ t,u=Value.str x t
 | .byt b,u=>∃ t,u=Value.bytes b t
 | .flt b,u=>∃ t,u=Value.float b t
 | .ref a,u=>u=Value.ref a
 | .ty n,u=>u=Value.type n
abbrev Vals:List V->List Value->Prop:=Paired RelV
theorem Vals.length {xs:List V}{us:List Value}(r:Vals xs us):xs.length=us.length:=Paired.length r
theorem Vals.get:∀ {xs:List V}{us:List Value}{i:Nat}{x:V},Vals xs us->xs[i]?=some x->∃ u,us[i]?=some u/\RelV x u
 | _,_,_,_,.nil,e=>by simp at e
 | _,_,0,_,.cons r _,e=>by simp at e;subst e;exact⟨_,rfl,r⟩
 | _,_,i+1,x,.cons _ t,e=>by
  obtain⟨u,h1,h2⟩:=Vals.get (i:=i) (x:=x) t (by simpa using e)
  exact⟨u,by simpa using h1,h2⟩
theorem Vals.append:∀ {xs ys:List V}{us ws:List Value},Vals xs us->Vals ys ws->Vals (xs++ys) (us++ws)
 | _,_,_,_,.nil,s=>s
 | _,_,_,_,.cons r t,s=>.cons r (Vals.append t s)
theorem Vals.take:∀ {xs:List V}{us:List Value}(n:Nat),Vals xs us->Vals (xs.take n) (us.take n)
 | _,_,0,_=>.nil
 | _,_,_+1,.nil=>.nil
 | _,_,n+1,.cons r t=>.cons r (Vals.take n t)
theorem Vals.drop:∀ {xs:List V}{us:List Value}(n:Nat),Vals xs us->Vals (xs.drop n) (us.drop n)
 | _,_,0,r=>r
 | _,_,_+1,.nil=>.nil
 | _,_,n+1,.cons _ t=>Vals.drop n t
noncomputable def Acp:Option V->Option Value->Prop
 | some v,some u=>RelV v u
 | none,none=>True
 | _,_=>False
def KV {κ:Type}:List (κ × V)->List (κ × Value)->Prop:=Paired λ (p:κ × V) (q:κ × Value)=>p.1=q.1/\RelV p.2 q.2
noncomputable def kV:Key->V
 | .inl i=>.int i
 | .inr x=>.str x
inductive HO where
  | lst (xs:List V)
  | tup (xs:List V)
  | dK (kvs:List (Key × V))|dT (kvs:List (List Key × V))
  | set (S:Int->Bool) (n:Nat)
  | ins (C dx:Addr) (fs:List (Str × V))
  | own (x:Addr)
  | xd (fs:List (Str × V))
  | met (f x:Addr)
  | rng (lo hi:Int)
  | frz (o:Obj) (u:HO)
  | tbl (ps:Array Value)
  | ext (φ:Heap->Prop)
abbrev Hp:=Addr->Option HO
noncomputable def upd (H:Hp) (a:Addr) (o:HO):Hp:=λ b=>if b=a then some o else H b
theorem Aj {H:Hp}{a:Addr}{o:HO}:upd H a o a=some o:=by unfold upd;rw [if_pos rfl]
theorem Al {H:Hp}{a b:Addr}{o:HO}(h:b≠a):upd H a o b=H b:=by unfold upd;rw [if_neg h]
theorem Mp {H:Hp}{a:Addr}{o u:HO}:upd (upd H a o) a u=upd H a u:=by
 funext b;unfold upd;split<;>rfl
theorem Nv {H:Hp}{a b:Addr}{o u:HO}(h:H a=some o) (h':H b=some u) (d:o≠u):a≠b:=by
 intro e;subst e;rw [h] at h';exact d (Option.some.inj h')
theorem Bd {H:Hp}{a b:Addr}{o:HO}(h:H a=some o) (h':H b=none):a≠b:=by
 intro e;subst e;rw [h] at h';cases h'
section
variable (P:Program) (w:World)
noncomputable def Ea (H:Hp) (h:Heap) (a:Addr):HO->Prop
 | .lst xs=>xs.length<=sizeLine/\∃ (its:List Value) (n:Nat),Vals xs its/\h.get? a=some { cls:=.type "list",data:=.seq its.toArray n }
 | .tup xs=>xs.length<=sizeLine/\∃ its:List Value,Vals xs its/\IsTup h a its.toArray
 | .dK kvs=>kvs.length<=sizeLine/\(a == sysModules)=false/\∃ vs,KV kvs vs/\h.DictOf (Cr P w) a vs
 | .dT kvs=>kvs.length<=sizeLine/\(a == sysModules)=false/\∃ xs:List (List Key × Addr × Value),
   Paired (λ (p:List Key × V) (q:List Key × Addr × Value)=>p.1=q.1/\H q.2.1=some (.tup (p.1.map kV))/\RelV p.2 q.2.2) kvs xs ∧
   ∃ o es ep,h.get? a=some o/\o.ExactDict/\o.data=.dict es ep/\es.toList=xs.map (entryOfKey (tupleKind (Cr P w)))/\(xs.map (·.1)).Nodup
 | .set S n=>h.SetOf (intKind P w) a S n
 | .ins C dx fs=>H dx=some (.own a)/\fs.length<=1000/\dx≠a/\h.get? a=some (PySem.W.instObj C dx) ∧
   ∃ mA,h.Ns1 dx mA/\(∀ f,Acp (fs.lookup f) (mA f))/\PySem.Within mA (fs.map (·.1))
 | .own _=>∃ o,h.get? a=some o
 | .xd fs=>∃ mA,h.Ns1 a mA/\∀ f,Acp (fs.lookup f) (mA f)
 | .rng lo hi=>∃ t u v,h.get? a=some { cls:=.type "range",data:=.fields #[.int lo t,.int hi u,.int 1 v] }
 | .frz o u=>h.get? a=some o/\Ea H h a u
 | .tbl ps=>h.get? a=some { cls:=.none,data:=.fields ps }
 | .met f x=>h.get? a=some (PySem.W.methodObj (.ref f) (.ref x))
 | .ext φ=>φ h/\(∃ o,h.get? a=some o)/\∀ h1 h2:Heap,φ h1->(∀ o,h1.get? a=some o->h2.get? a=some o)->φ h2
def HOk (H:Hp) (h:Heap):Prop:=∀ a o,H a=some o->Ea P w H h a o
end
section
variable {P:Program}{w:World}{H H':Hp}{h h':Heap}{a:Addr}{o:HO}
theorem Ea.lt (x:Ea P w H h a o):a<h.objs.size:=by
 cases o with
 | lst xs=>obtain⟨_,_,_,_,e⟩:=x;exact Heap.lt_size e
 | tup xs=>obtain⟨_,_,_,p⟩:=x;exact p.lt
 | dK kvs=>obtain⟨_,_,_,_,o,_,_,e,_⟩:=x;exact Heap.lt_size e
 | dT kvs=>obtain⟨_,_,_,_,o,_,_,e,_⟩:=x;exact Heap.lt_size e
 | set S n=>obtain⟨o,_,_,_,e,_⟩:=x;exact Heap.lt_size e
 | ins C dx fs=>obtain⟨_,_,_,e,_⟩:=x;exact Heap.lt_size e
 | own y=>obtain⟨_,e⟩:=x;exact Heap.lt_size e
 | xd fs=>obtain⟨_,⟨_,_,_,e,_⟩,_⟩:=x;exact Heap.lt_size e
 | rng lo hi=>obtain⟨_,_,_,e⟩:=x;exact Heap.lt_size e
 | frz ob u=>obtain⟨e,_⟩:=x;exact Heap.lt_size e
 | tbl ps=>exact Heap.lt_size (show h.get? a=some _ from x)
 | met f y=>exact Heap.lt_size (show h.get? a=some _ from x)
 | ext φ=>obtain⟨_,⟨_,e⟩,_⟩:=x;exact Heap.lt_size e
theorem Paired.mapP {α β:Type}{F G:α->β->Prop}:∀ {l₁:List α}{l₂:List β},Paired F l₁ l₂->(∀ a b,F a b->G a b)->Paired G l₁ l₂
 | _,_,.nil,_=>.nil
 | _,_,.cons r t,f=>.cons (f _ _ r) (Paired.mapP t f)
theorem Paired.imp' {α β:Type}{F G:α->β->Prop}(f:∀ a b,F a b->G a b) {l₁:List α}{l₂:List β}(r:Paired F l₁ l₂):Paired G l₁ l₂:=Paired.mapP r f
theorem Ea.stay (x:Ea P w H h a o) (k:∀ b u,(b=a\/H b=some (.own a))->h.get? b=some u->h'.get? b=some u)
  (ho:∀ b,H b=some (.own a)->H' b=some (.own a)) (ht:∀ b xs,H b=some (.tup xs)->H' b=some (.tup xs)):Ea P w H' h' a o:=by
 induction o with
 | lst xs=>obtain⟨z,its,n,r,e⟩:=x;exact⟨z,its,n,r,k _ _ (.inl rfl) e⟩
 | tup xs=>obtain⟨z,its,r,ob,e,c⟩:=x;exact⟨z,its,r,ob,k _ _ (.inl rfl) e,c⟩
 | dK kvs=>obtain⟨z,y,vs,r,ob,es,ep,e,c⟩:=x;exact⟨z,y,vs,r,ob,es,ep,k _ _ (.inl rfl) e,c⟩
 | dT kvs =>
  obtain⟨z,y,xs,r,ob,es,ep,e,c⟩:=x
  exact⟨z,y,xs,Paired.mapP r λ p q z=>⟨z.1,ht _ _ z.2.1,z.2.2⟩,ob,es,ep,k _ _ (.inl rfl) e,c⟩
 | set S n=>obtain⟨ob,es,ep,t,e,c⟩:=x;exact⟨ob,es,ep,t,k _ _ (.inl rfl) e,c⟩
 | ins C dx fs =>
  obtain⟨d,z,ne,e,mA,⟨od,es,ep,e2,c⟩,r⟩:=x
  exact⟨ho _ d,z,ne,k _ _ (.inl rfl) e,mA,⟨od,es,ep,k _ _ (.inr d) e2,c⟩,r⟩
 | own y=>obtain⟨ob,e⟩:=x;exact⟨ob,k _ _ (.inl rfl) e⟩
 | xd fs=>obtain⟨mA,⟨od,es,ep,e,c⟩,r⟩:=x;exact⟨mA,⟨od,es,ep,k _ _ (.inl rfl) e,c⟩,r⟩
 | rng lo hi=>obtain⟨t,u,v,e⟩:=x;exact⟨t,u,v,k _ _ (.inl rfl) e⟩
 | frz ob u ih=>obtain⟨e,q⟩:=x;exact⟨k _ _ (.inl rfl) e,ih q⟩
 | tbl ps =>
  have e:h.get? a=some { cls:=.none,data:=.fields ps }:=x
  show h'.get? a=some { cls:=.none,data:=.fields ps }
  exact k a _ (.inl rfl) e
 | met f y =>
  have e:h.get? a=some (PySem.W.methodObj (.ref f) (.ref y)):=x
  show h'.get? a=some (PySem.W.methodObj (.ref f) (.ref y))
  exact k a _ (.inl rfl) e
 | ext φ=>obtain⟨p,⟨o,e⟩,st⟩:=x;exact⟨st _ _ p λ o q=>k _ _ (.inl rfl) q,⟨o,k _ _ (.inl rfl) e⟩,st⟩
theorem HOk.lt (x:HOk P w H h) (e:H a=some o):a<h.objs.size:=(x a o e).lt
theorem HOk.fresh (x:HOk P w H h) (e:h.objs.size<=a):H a=none:=by
 cases q:H a with
 | none=>rfl
 | some u=>exact absurd (Nat.lt_of_lt_of_le (x.lt q) e) (Nat.lt_irrefl _)
theorem HOk.kept (x:HOk P w H h) (k:∀ b u,h.get? b=some u->h'.get? b=some u):HOk P w H h':=λ a o e =>
 (x a o e).stay (λ b u _ q=>k b u q) (λ _ q=>q) λ _ _ q=>q
theorem HOk.laid (x:HOk P w H h) (k:∀ b u,h.get? b=some u->h'.get? b=some u) (hp:h.objs.size<=a) (new:Ea P w (upd H a o) h' a o):HOk P w (upd H a o) h':=λ b u e=>by
 have hn:=x.fresh hp
 by_cases hb:b=a
 ·subst hb;rw [Aj] at e;cases e;exact new
 ·rw [Al hb] at e
  exact (x b u e).stay (λ c v _ q=>k c v q) (λ c q=>by rw [Al (Bd q hn)];exact q) λ c xs q=>by rw [Al (Bd q hn)];exact q
end
def Rd (H:Hp) (a:Addr) (u:HO):Prop:=H a=some u\/∃ o,H a=some (.frz o u)
theorem Rd.ok {P:Program}{w:World}{H:Hp}{h:Heap}{a:Addr}{u:HO}(r:Rd H a u) (x:HOk P w H h):Ea P w H h a u:=by
 rcases r with r|⟨o,r⟩
 ·exact x a u r
 ·obtain⟨_,q⟩:=x a _ r
  exact q
noncomputable def Mut:Option HO->Prop
 | some (.lst _)=>True
 | some (.dK _)=>True
 | some (.dT _)=>True
 | some (.set _ _)=>True
 | some (.ins _ _ _)=>True
 | some (.ext _)=>True
 | _=>False
section
variable {P:Program}{w:World}{H:Hp}{h h':Heap}{x e:Addr}{o':HO}
theorem HOk.write (ok:HOk P w H h) (mu:Mut (H x)) (he:e=x\/H e=some (.own x)) (k:∀ b u,b≠e->h.get? b=some u->h'.get? b=some u) (heo:∃ u,h'.get? e=some u)
  (new:Ea P w (upd H x o') h' x o'):HOk P w (upd H x o') h':=λ b u q=>by
 have nown:∀ c y,H c=some (.own y)->c≠x:=λ c y r z=>by subst z;rw [r] at mu;exact mu
 have ntup:∀ c xs,H c=some (.tup xs)->c≠x:=λ c xs r z=>by subst z;rw [r] at mu;exact mu
 by_cases hb:b=x
 ·subst hb;rw [Aj] at q;cases q;exact new
 ·rw [Al hb] at q
  by_cases hbe:b=e
  ·have q':H b=some (.own x):=by
    rcases he with z|z
    ·exact absurd (hbe.trans z) hb
    ·rw [hbe];exact z
   rw [q] at q';cases q'
   obtain⟨v,hv⟩:=heo
   exact⟨v,by rw [hbe];exact hv⟩
  ·refine (ok b u q).stay (λ c v hc r=>k c v ?_ r) (λ c r=>by rw [Al (nown c b r)];exact r) λ c xs r=>by rw [Al (ntup c xs r)];exact r
   rcases hc with rfl|hc
   ·exact hbe
   ·rintro rfl
    rcases he with z|z
    ·exact nown c b hc z
    ·rw [hc] at z;cases z;exact hb rfl
end
structure Un (fs ex:List Addr) (H H':Hp) (h h':Heap):Prop where
 keep:∀ b o,h.get? b=some o->H b=none->b∉fs->b∉ex->h'.get? b=some o
 slot:∀ b o,h.get? b=some o->H b=none->b∈fs->b∉ex->∃ sl,h'.get? b=some { o with slots:=sl }
 free:∀ b o,h.get? b=some o->H b=none->b∉ex->H' b=none
 there:∀ b o,h.get? b=some o->b∉ex->∃ o',h'.get? b=some o'
 tups:∀ b xs,H b=some (.tup xs)->H' b=some (.tup xs)
 frzs:∀ b o u,H b=some (.frz o u)->H' b=some (.frz o u)
 tbls:∀ b ps,H b=some (.tbl ps)->∃ more,H' b=some (.tbl (ps++more))
section
variable {fs fs' ex ex':List Addr}{H H1 H2:Hp}{h h1 h2 h':Heap}{a x e:Addr}{o:HO}
theorem Un.any (u:Un fs ex H H1 h h1) {b:Addr}{ob:Obj}(q:h.get? b=some ob) (n:H b=none) (hx:b∉ex):∃ sl,h1.get? b=some { ob with slots:=sl }:=by
 by_cases hb:b∈fs
 ·exact u.slot b ob q n hb hx
 ·exact⟨ob.slots,u.keep b ob q n hb hx⟩
theorem Un.kept (k:∀ b u,h.get? b=some u->h'.get? b=some u):Un fs ex H H h h' :=
 ⟨λ b ob q _ _ _=>k b ob q,λ b ob q _ _ _=>⟨ob.slots,k b ob q⟩,λ _ _ _ n _=>n,λ b ob q _=>⟨ob,k b ob q⟩,λ _ _ q=>q,λ _ _ _ q=>q,λ _ ps q=>⟨#[],by rw [q];simp⟩⟩
theorem Un.refl:Un fs ex H H h h:=Un.kept λ _ _ q=>q
theorem Un.laid (k:∀ b u,h.get? b=some u->h'.get? b=some u) (hp:h.objs.size<=a) (hn:H a=none):Un fs ex H (upd H a o) h h' where
 keep:=λ b u q _ _ _=>k b u q
 slot:=λ b u q _ _ _=>⟨u.slots,k b u q⟩
 free:=λ b u q n _=>by rw [Al (Nat.ne_of_lt (Nat.lt_of_lt_of_le (Heap.lt_size q) hp))];exact n
 there:=λ b u q _=>⟨u,k b u q⟩
 tups:=λ b xs q=>by rw [Al (Bd q hn)];exact q
 frzs:=λ b u xs q=>by rw [Al (Bd q hn)];exact q
 tbls:=λ b ps q=>⟨#[],by rw [Al (Bd q hn),q];simp⟩
theorem Un.write (mu:Mut (H x)) (he:e=x\/H e=some (.own x)) (k:∀ b u,b≠e->h.get? b=some u->h'.get? b=some u) (heo:∃ u,h'.get? e=some u):Un fs ex H (upd H x o) h h':=by
 have hx:∀ b,H b=none->b≠x:=λ b n z=>by subst z;rw [n] at mu;exact mu
 have hb:∀ b,H b=none->b≠e:=λ b n z=>by
  subst z
  rcases he with r|r
  ·exact hx b n r
  ·rw [n] at r;cases r
 have hm:∀ b u,H b=some u->¬ Mut (some u)->b≠x:=λ b u q nm z=>by subst z;rw [q] at mu;exact nm mu
 refine⟨λ b u q n _ _=>k b u (hb b n) q,λ b u q n _ _=>⟨u.slots,k b u (hb b n) q⟩,λ b u q n _=>by rw [Al (hx b n)];exact n,λ b u q _=>?_,
  λ b xs q=>by rw [Al (hm b _ q λ z=>z)];exact q,λ b u xs q=>by rw [Al (hm b _ q λ z=>z)];exact q,λ b ps q=>⟨#[],by rw [Al (hm b _ q λ z=>z),q];simp⟩⟩
 by_cases hbe:b=e
 ·subst hbe;exact heo
 ·exact⟨u,k b u hbe q⟩
end
noncomputable def trk (h:Heap) (H:Hp):List Addr:=(List.range h.objs.size).filter λ a=>(H a).isSome
noncomputable def Ahy (h:Heap) (H:Hp):Heap:=PySem.W.hideAll h (trk h H)
theorem Aem (h:Heap) (H:Hp):(Ahy h H).objs.size=h.objs.size:=PySem.W.hideAll_size _ _
theorem Aim {h:Heap}{H:Hp}{b:Addr}{o:Obj}(e:h.get? b=some o) (n:H b=none):(Ahy h H).get? b=some o :=
 PySem.W.hideAll_get _ e λ hm=>by
  have q:(H b).isSome=true:=(List.mem_filter.mp hm).2
  rw [n] at q;simp at q
theorem Akl {h:Heap}{H:Hp}{b:Addr}{o:Obj}(e:(Ahy h H).get? b=some o):h.get? b=some o/\H b=none:=by
 have e':h.get? b=some o:=PySem.W.of_hideAll (trk h H) e
 refine⟨e',?_⟩
 cases q:H b with
 | none=>rfl
 | some x =>
  have hm:b∈trk h H:=List.mem_filter.mpr ⟨List.mem_range.mpr (Heap.lt_size e'),by simp [q]⟩
  have z:(Ahy h H).get? b=none:=PySem.W.hideAll_none (trk h H) hm
  rw [z] at e;cases e
noncomputable def Jf (g h:Heap) (L:Addr):List (Addr × Obj):=(List.range h.objs.size).filterMap λ a=>if a=L\/(g.get? a).isSome=true then none else (h.get? a).map λ o=>(a,o)
theorem O9 {g h:Heap}{L a:Addr}{o:Obj}(h1:a≠L) (h2:g.get? a=none) (h3:h.get? a=some o):(a,o)∈Jf g h L :=
 List.mem_filterMap.mpr ⟨a,List.mem_range.mpr (Heap.lt_size h3),by simp [h1,h2,h3]⟩
theorem Q0 {g h:Heap}{L:Addr}{p:Addr × Obj}(hp:p∈Jf g h L):p.1≠L/\g.get? p.1=none/\h.get? p.1=some p.2:=by
 obtain⟨b,_,e⟩:=List.mem_filterMap.mp hp
 split at e
 ·cases e
 ·rename_i hn
  cases q:h.get? b with
  | none=>rw [q] at e;simp at e
  | some u =>
   rw [q] at e
   simp only [Option.map_some,Option.some.injEq] at e
   subst e
   refine⟨λ z=>hn (.inl z),?_,q⟩
   show g.get? b=none
   cases r:g.get? b with
   | none=>rfl
   | some v=>exact (hn (.inr (by simp [r]))).elim
noncomputable def rest (g h:Heap) (L d:Addr):List (Addr × Obj):=(Jf g h L).filter λ p=>decide (p.1≠d)
theorem Ah3 {g h:Heap}{L:Addr}:News g L h (Jf g h L):=λ p hp=>let ⟨a,b,c⟩:=Q0 hp;⟨c,a,b⟩
end L2
namespace L2
open PySem PySem.Spec PyProof.Rows
structure Mod (K:PySem.W.Frag) (mg:Str->Option Value) (base:Heap):Prop where
 kin:K.In base
 glob:base.Ns mainGlobals mg
 blt:∃ mb,base.Ns builtinsNs mb/\∀ x:Str,x≠"__name__"->mb x=bootBuiltins x
 nolimit:base.NoLimit
structure Cx where
 prog:Program
 w:World
 K:PySem.W.Frag
 mg:Str->Option Value
 base:Heap
 A:Around
 N:List Str
 s₀:Shared
 H₀:Hp
 env:Env
 outer:List Env
 stack:List Env
 ex:List Addr
 fn:Str->Bool
 calm:Bool
 pn:List (Addr × Obj)
 xe:Value->Shared->Prop
noncomputable def frs (l:List Env):List Addr:=l.filterMap (·.frame)
abbrev Cx.fs (X:Cx):List Addr:=frs X.outer
def Vis (sc:Scope) (x:Str):Prop:=sc.names.lookup x=some .local\/sc.names.lookup x=some .cell\/sc.names.lookup x=some .free
def Loc (sc:Scope) (x:Str):Prop:=sc.names.lookup x=some .local\/sc.names.lookup x=some .cell
def Look (env:Env) (h:Heap) (m:Str->Option Value) (x:Str) (u:Value):Prop :=
 (env.kindOf x=some .local/\m x=some u)\/((env.kindOf x=some .cell\/env.kindOf x=some .free)/\∃ c,env.cells.lookup x=some c/\h.IsCell c (some u))
structure Cx.Ok (X:Cx):Prop where
 mod:Mod X.K X.mg X.base
 kind:X.env.scope.kind=.function
 glob:X.env.globals=mainGlobals
 blt:X.env.builtins=builtinsNs
 above:X.s₀.heap.objs.size<=X.env.locals
 inj:∀ x y c,X.env.cells.lookup x=some c->X.env.cells.lookup y=some c->x=y
 has:∀ x,(X.env.kindOf x=some .cell\/X.env.kindOf x=some .free)->∃ c,X.env.cells.lookup x=some c
 cab:∀ x c,X.fn x=true->X.env.cells.lookup x=some c->X.s₀.heap.objs.size<=c
 hd:X.calm=true->X.A.handled=none
 frames:X.A.frames=some X.stack
 stk:X.stack=X.outer\/(X.stack=X.env :: X.outer/\X.env.frame=some X.env.locals)
 exf:∀ b∈X.ex,b≠X.env.locals/\∀ x c,X.env.cells.lookup x=some c->c≠b
 bs:∀ b o,X.base.get? b=some o->X.s₀.heap.get? b=some o/\X.H₀ b=none
 bsz:X.base.objs.size<=X.s₀.heap.objs.size
 noex:∀ b o,X.base.get? b=some o->b∉X.ex
 exfs:∀ b∈X.ex,b∉X.fs
 funs:X.s₀.heap.FunFrames X.base X.outer
 frf:∀ b∈X.fs,X.H₀ b=none
structure Inv (X:Cx) (pins:List (Addr × Obj)) (σ:List (Option V)) (H:Hp) (s:Shared):Prop where
 ok:X.Ok
 os:s.os=X.s₀.os
 bare:AllBare s.gens
 base:Un X.fs X.ex X.H₀ H X.s₀.heap s.heap
 loc:∃ m,s.heap.Ns X.env.locals m/\∀ (i:Nat) (x:Str) (v:V),X.N[i]?=some x->σ[i]?=some (some v)->Vis X.env.scope x->∃ u,RelV v u/\Look X.env s.heap m x u
 cell:∀ x c,X.env.cells.lookup x=some c->∃ v,s.heap.IsCell c v
 free:H X.env.locals=none
 freeC:∀ x c,X.env.cells.lookup x=some c->H c=none
 pin:∀ p∈X.pn++pins,s.heap.get? p.1=some p.2/\H p.1=none/\p.1≠X.env.locals/\p.1∉X.fs/\∀ v,p.2.data≠.cell v
 hok:HOk X.prog X.w H s.heap
 len:σ.length=X.N.length
section
variable {X:Cx}{pins:List (Addr × Obj)}{σ:List (Option V)}{H H':Hp}{s:Shared}{h':Heap}
theorem Cx.Ok.nofr (ok:X.Ok) {b:Addr}{o:Obj}(e:X.base.get? b=some o):b∉X.fs:=λ hb=>by
 have:=(ok.funs.mem hb).1
 rw [e] at this;cases this
theorem Inv.bs (I:Inv X pins σ H s):∀ b o,X.base.get? b=some o->s.heap.get? b=some o/\H b=none:=λ b o e =>
 ⟨I.base.keep b o (I.ok.bs b o e).1 (I.ok.bs b o e).2 (I.ok.nofr e) (I.ok.noex b o e),I.base.free b o (I.ok.bs b o e).1 (I.ok.bs b o e).2 (I.ok.noex b o e)⟩
theorem Inv.bk (I:Inv X pins σ H s):∀ b o,X.base.get? b=some o->s.heap.get? b=some o:=λ b o e=>(I.bs b o e).1
theorem Inv.mod (I:Inv X pins σ H s):Mod X.K X.mg X.base:=I.ok.mod
theorem Inv.kIn (I:Inv X pins σ H s):X.K.In s.heap:=I.ok.mod.kin.keeps I.bk
theorem Inv.fr (I:Inv X pins σ H s):∃ m,Fr X.base X.env.locals s.heap m :=
 let ⟨m,hn,_⟩:=I.loc
 ⟨m,hn,I.bk,Nat.le_trans I.ok.bsz I.ok.above⟩
theorem Inv.lt (I:Inv X pins σ H s):X.env.locals<s.heap.objs.size:=let ⟨_,hn,_⟩:=I.loc;hn.lt
theorem Inv.sz (I:Inv X pins σ H s):X.s₀.heap.objs.size<=s.heap.objs.size:=Nat.le_trans I.ok.above (Nat.le_of_lt I.lt)
theorem Inv.nofs (I:Inv X pins σ H s) {a:Addr}(h:s.heap.objs.size<=a):a∉X.fs:=λ hb=>by
 obtain⟨_,o,ho,_⟩:=I.ok.funs.mem hb
 exact absurd (Nat.lt_of_lt_of_le (Heap.lt_size ho) (Nat.le_trans I.sz h)) (Nat.lt_irrefl _)
theorem Inv.cne (I:Inv X pins σ H s):∀ x c,X.env.cells.lookup x=some c->c≠X.env.locals:=λ x c e z=>by
 obtain⟨v,o,ho,hd⟩:=I.cell x c e
 obtain⟨m,⟨o',es,ep,ho',hd',_⟩,_⟩:=I.loc
 rw [z,ho'] at ho;cases ho;rw [hd'] at hd;cases hd
theorem Inv.funs (I:Inv X pins σ H s):s.heap.FunFrames X.base X.outer:=by
 have all:∀ (l:List Env),(∀ b∈frs l,b∈X.fs)->X.s₀.heap.FunFrames X.base l->s.heap.FunFrames X.base l:=by
  intro l
  induction l with
  | nil=>intro _ _;trivial
  | cons env r ih =>
   intro hs hl
   obtain⟨hk,⟨L,o,hf,hn,ho,hd⟩,hr⟩:=hl
   have hL:L∈X.fs:=hs L (by unfold frs;rw [List.filterMap_cons,hf];exact List.mem_cons_self)
   obtain⟨sl,e⟩:=I.base.slot L o ho (I.ok.frf L hL) hL λ z=>I.ok.exfs L z hL
   exact⟨hk,⟨L,_,hf,hn,e,hd⟩,ih (λ b hb=>hs b (by unfold frs;rw [List.filterMap_cons,hf];exact List.mem_cons_of_mem _ hb)) hr⟩
 exact all X.outer (λ _ hb=>hb) I.ok.funs
theorem Inv.stack (I:Inv X pins σ H s):s.heap.FunFrames X.base X.stack:=by
 rcases I.ok.stk with e|⟨e,hf⟩
 ·rw [e];exact I.funs
 ·rw [e]
  obtain⟨m,hn,_⟩:=I.loc
  refine .cons (by rw [I.ok.kind];decide) hf hn ?_ I.funs
  exact Heap.get?_none_of_le (Nat.le_trans I.ok.bsz I.ok.above)
theorem Inv.stkSub (I:Inv X pins σ H s):∀ b∈frs X.stack,b∈X.env.locals :: X.fs:=λ b hb=>by
 rcases I.ok.stk with e|⟨e,hf⟩
 ·rw [e] at hb;exact List.mem_cons_of_mem _ hb
 ·rw [e] at hb
  unfold frs at hb
  rw [List.filterMap_cons,hf] at hb
  exact hb
theorem Inv.stkFree (I:Inv X pins σ H s):∀ b∈frs X.stack,H b=none:=λ b hb=>by
 rcases List.mem_cons.mp (I.stkSub b hb) with e|hb
 ·rw [e];exact I.free
 ·obtain⟨_,o,ho,_⟩:=I.ok.funs.mem hb
  exact I.base.free b o ho (I.ok.frf b hb) λ z=>I.ok.exfs b z hb
theorem Inv.step {g':Array GenState}{t':Nat}{d':Drawn}{ch:List Addr}(I:Inv X pins σ H s)
  (hch:∀ b∈ch,(b∈X.ex\/X.s₀.heap.objs.size<=b)/\b≠X.env.locals/\(∀ x c,X.env.cells.lookup x=some c->c≠b)/\∀ p∈X.pn++pins,p.1≠b)
  (keep:∀ b o,b≠X.env.locals->b∉X.fs->b∉ch->s.heap.get? b=some o->H b=none->h'.get? b=some o)
  (slot:∀ b o,b≠X.env.locals->b∈X.fs->b∉ch->s.heap.get? b=some o->H b=none->∃ sl,h'.get? b=some { o with slots:=sl }) (free:∀ b o,b∉ch->s.heap.get? b=some o->H b=none->H' b=none)
  (there:∀ b o,b∉ch->s.heap.get? b=some o->∃ o',h'.get? b=some o')
  (tups:∀ b xs,H b=some (.tup xs)->H' b=some (.tup xs)) (frzs:∀ b o u,H b=some (.frz o u)->H' b=some (.frz o u)) (tbls:∀ b ps,H b=some (.tbl ps)->∃ more,H' b=some (.tbl (ps++more)))
  (ns:∀ m,s.heap.Ns X.env.locals m->h'.Ns X.env.locals m) (hok:HOk X.prog X.w H' h') (hg:AllBare g') :
  Inv X pins σ H' { s with heap:=h',gens:=g',drawn:=d',toks:=t' }:=by
 have neL:∀ b o,X.s₀.heap.get? b=some o->b≠X.env.locals:=λ b o e=>Nat.ne_of_lt (Nat.lt_of_lt_of_le (Heap.lt_size e) I.ok.above)
 have neC:∀ b o,X.s₀.heap.get? b=some o->b∉X.ex->b∉ch:=λ b o e hx hb=>by
  rcases (hch b hb).1 with z|z
  ·exact hx z
  ·exact absurd (Nat.lt_of_lt_of_le (Heap.lt_size e) z) (Nat.lt_irrefl _)
 have cellK:∀ x c,X.env.cells.lookup x=some c->∀ v,s.heap.IsCell c v->h'.IsCell c v:=λ x c e v ⟨o,ho,hd⟩=>by
  have nch:c∉ch:=λ z=>(hch c z).2.2.1 x c e rfl
  by_cases hc:c∈X.fs
  ·obtain⟨sl,q⟩:=slot c o (I.cne x c e) hc nch ho (I.freeC x c e)
   exact⟨_,q,hd⟩
  ·exact⟨o,keep c o (I.cne x c e) hc nch ho (I.freeC x c e),hd⟩
 refine⟨I.ok,I.os,hg,⟨λ b o e n hb hx=>?_,λ b o e n hb hx=>?_,λ b o e n hx=>?_,λ b o e hx=>?_,λ b xs e=>tups b xs (I.base.tups b xs e),λ b o xs e=>frzs b o xs (I.base.frzs b o xs e),λ b ps e=>?_⟩,?_,λ x c e=>?_,?_,λ x c e=>?_,λ p hp=>?_,hok,I.len⟩
 ·exact keep b o (neL b o e) hb (neC b o e hx) (I.base.keep b o e n hb hx) (I.base.free b o e n hx)
 ·obtain⟨sl,e1⟩:=I.base.slot b o e n hb hx
  obtain⟨sl',e2⟩:=slot b _ (neL b o e) hb (neC b o e hx) e1 (I.base.free b o e n hx)
  exact⟨sl',e2⟩
 ·obtain⟨o',e1⟩:=I.base.there b o e hx
  exact free b o' (neC b o e hx) e1 (I.base.free b o e n hx)
 ·obtain⟨o',e1⟩:=I.base.there b o e hx
  exact there b o' (neC b o e hx) e1
 ·obtain⟨m1,e1⟩:=I.base.tbls b ps e
  obtain⟨m2,e2⟩:=tbls b _ e1
  exact⟨m1++m2,by rw [e2,Array.append_assoc]⟩
 ·obtain⟨m,hn,hl⟩:=I.loc
  refine⟨m,ns m hn,λ i x v e1 e2 e3=>?_⟩
  obtain⟨u,r,l⟩:=hl i x v e1 e2 e3
  refine⟨u,r,?_⟩
  rcases l with l|⟨k,c,e,z⟩
  ·exact .inl l
  ·exact .inr ⟨k,c,e,cellK x c e _ z⟩
 ·obtain⟨v,z⟩:=I.cell x c e
  exact⟨v,cellK x c e v z⟩
 ·obtain⟨m,⟨o,_,_,ho,_⟩,_⟩:=I.loc
  exact free _ o (λ z=>(hch _ z).2.1 rfl) ho I.free
 ·obtain⟨v,o,ho,hd⟩:=I.cell x c e
  exact free c o (λ z=>(hch c z).2.2.1 x c e rfl) ho (I.freeC x c e)
 ·obtain⟨e,n,ne,nf,d⟩:=I.pin p hp
  have nch:p.1∉ch:=λ z=>(hch p.1 z).2.2.2 p hp rfl
  exact⟨keep p.1 p.2 ne nf nch e n,free p.1 p.2 nch e n,ne,nf,d⟩
theorem Inv.un {t':Nat}(I:Inv X pins σ H s) (u:Un X.fs [] H H' s.heap h') (hok:HOk X.prog X.w H' h'):Inv X pins σ H' { s with heap:=h',toks:=t' }:=by
 obtain⟨m,⟨o,es,ep,ho,r⟩,_⟩:=id I.loc
 obtain⟨sl,hL⟩:=u.any ho I.free (by simp)
 exact I.step (g':=s.gens) (d':=s.drawn) (ch:=[]) (λ _ z=>nomatch z) (λ b o _ hb _ e n=>u.keep b o e n hb (by simp)) (λ b o _ hb _ e n=>u.slot b o e n hb (by simp)) (λ b o _ e n=>u.free b o e n (by simp)) (λ b o _ e=>u.there b o e (by simp)) u.tups u.frzs u.tbls (λ m' hm=>by
  obtain⟨o',es',ep',ho',r'⟩:=hm
  rw [ho] at ho';cases ho'
  exact⟨_,es',ep',hL,r'⟩) hok I.bare
theorem Inv.call {g':Array GenState}{t':Nat}{d':Drawn}{ch:List Addr}(I:Inv X pins σ H s) (u:Un (frs X.stack) ch H H' s.heap h') (hok:HOk X.prog X.w H' h') (hg:AllBare g')
  (hch:∀ b∈ch,(b∈X.ex\/X.s₀.heap.objs.size<=b)/\b≠X.env.locals/\(∀ x c,X.env.cells.lookup x=some c->c≠b)/\∀ p∈X.pn++pins,p.1≠b) :
  Inv X pins σ H' { s with heap:=h',gens:=g',drawn:=d',toks:=t' }:=by
 obtain⟨m,⟨o,es,ep,ho,r⟩,_⟩:=id I.loc
 obtain⟨sl,hL⟩:=u.any ho I.free λ z=>(hch _ z).2.1 rfl
 exact I.step (ch:=ch) hch (λ b o hL hb hc e n=>u.keep b o e n (λ z=>(List.mem_cons.mp (I.stkSub b z)).elim hL hb) hc) (λ b o _ _ hc e n=>u.any e n hc) (λ b o hc e n=>u.free b o e n hc) (λ b o hc e=>u.there b o e hc) u.tups u.frzs u.tbls (λ m' hm=>by
  obtain⟨o',es',ep',ho',r'⟩:=hm
  rw [ho] at ho';cases ho'
  exact⟨_,es',ep',hL,r'⟩) hok hg
theorem Inv.turned {t':Nat}{it:Addr}(I:Inv X pins σ H s) (k:∀ b o,b≠it->s.heap.get? b=some o->h'.get? b=some o) (hn:H it=none) (hL:it≠X.env.locals)
  (h1:it∈X.ex\/X.s₀.heap.objs.size<=it) (h2:∀ x c,X.env.cells.lookup x=some c->c≠it) (h3:∀ p∈X.pn++pins,p.1≠it):Inv X pins σ H { s with heap:=h',toks:=t' }:=by
 have nit:∀ b u,H b=some u->b≠it:=λ b u e z=>by rw [z,hn] at e;cases e
 refine I.step (g':=s.gens) (d':=s.drawn) (ch:=[it]) (λ b hb=>?_) (λ b o _ _ hc e _=>k b o (λ z=>hc (by simp [z])) e) (λ b o _ _ hc e _=>⟨o.slots,k b o (λ z=>hc (by simp [z])) e⟩) (λ _ _ _ _ n=>n)
  (λ b o hc e=>⟨o,k b o (λ z=>hc (by simp [z])) e⟩) (λ _ _ e=>e) (λ _ _ _ e=>e) (λ b ps e=>⟨#[],by rw [e];simp⟩) (λ m hm=>?_) (λ b u e=>?_) I.bare
 ·have e:b=it:=by simpa using hb
  subst e
  exact⟨h1,hL,h2,h3⟩
 ·obtain⟨o,es,ep,ho,r⟩:=hm
  exact⟨o,es,ep,k _ o (Ne.symm hL) ho,r⟩
 ·refine (I.hok b u e).stay (λ c v hc q=>k c v ?_ q) (λ _ q=>q) λ _ _ q=>q
  rcases hc with z|z
  ·rw [z];exact nit b u e
  ·exact nit c _ z
theorem Inv.tok (I:Inv X pins σ H s) (t:Nat):Inv X pins σ H { s with toks:=t }:=I.un (h':=s.heap) (t':=t) Un.refl I.hok
theorem Inv.kept {t':Nat}(I:Inv X pins σ H s) (k:∀ b u,s.heap.get? b=some u->h'.get? b=some u):Inv X pins σ H { s with heap:=h',toks:=t' }:=I.un (Un.kept k) (I.hok.kept k)
theorem Inv.laid {a:Addr}{o:HO}{t':Nat}(I:Inv X pins σ H s) (k:∀ b u,s.heap.get? b=some u->h'.get? b=some u) (hp:s.heap.objs.size<=a) (new:Ea X.prog X.w (upd H a o) h' a o) :
  Inv X pins σ (upd H a o) { s with heap:=h',toks:=t' }:=I.un (Un.laid k hp (I.hok.fresh hp)) (I.hok.laid k hp new)
theorem Inv.write {x e:Addr}{o:HO}{t':Nat}(I:Inv X pins σ H s) (mu:Mut (H x)) (he:e=x\/H e=some (.own x)) (k:∀ b u,b≠e->s.heap.get? b=some u->h'.get? b=some u) (heo:∃ u,h'.get? e=some u)
  (new:Ea X.prog X.w (upd H x o) h' x o):Inv X pins σ (upd H x o) { s with heap:=h',toks:=t' }:=I.un (Un.write mu he k heo) (I.hok.write mu he k heo new)
theorem Inv.pins_of {pins':List (Addr × Obj)}(I:Inv X pins σ H s) (h:∀ p∈pins',s.heap.get? p.1=some p.2/\H p.1=none/\p.1≠X.env.locals/\p.1∉X.fs/\∀ v,p.2.data≠.cell v):Inv X pins' σ H s :=
 ⟨I.ok,I.os,I.bare,I.base,I.loc,I.cell,I.free,I.freeC,λ p hp=>(List.mem_append.mp hp).elim (λ z=>I.pin p (List.mem_append_left _ z)) (h p),I.hok,I.len⟩
theorem Sx {N:List Str}(hN:N.Nodup) {i j:Nat}{x:Str}(a:N[i]?=some x) (b:N[j]?=some x):i=j:=by
 obtain⟨h1,e1⟩:=List.getElem?_eq_some_iff.mp a
 obtain⟨h2,e2⟩:=List.getElem?_eq_some_iff.mp b
 exact (List.getElem_inj hN).mp (e1.trans e2.symm)
theorem Ac2 {M:Model}{A:Around}{E:Value->Shared->Prop}{i:Nat}{x:Str}{v:V}{u:Value}{Q:Unit->Shared->Prop}(I:Inv X pins σ H s) (hN:X.N.Nodup) (hi:X.N[i]?=some x) (hx:Loc X.env.scope x) (r:RelV v u)
  (h:∀ s',Inv X pins (σ.set i (some v)) H s'->(∃ a,Heap.SameBut a s.heap s'.heap/\(a=X.env.locals\/X.env.cells.lookup x=some a))->Q () s') (hf:X.fn x=true\/X.env.scope.names.lookup x=some .local:=by first|exact .inl rfl|exact .inr rfl|assumption):wpAny M A (storeName X.env x u) Q E s:=by
 obtain⟨m,hn,hl⟩:=id I.loc
 have hcls:(X.env.scope.kind == .class || (X.env.scope.kind == .module && X.env.locals != X.env.globals))=false:=by rw [I.ok.kind];rfl
 have hiσ:i<σ.length:=by rw [I.len];exact (List.getElem?_eq_some_iff.mp hi).1
 have cne:=I.cne
 have tracked:∀ {a:Addr} {h':Heap},(∃ o,s.heap.get? a=some o/\H a=none)->Heap.SameBut a s.heap h'->HOk X.prog X.w H h':=λ {a h'} ha hs b ob e=>by
  obtain⟨_,_,hfree⟩:=ha
  refine (I.hok b ob e).stay (λ c w' hc q=>(hs.2 c ?_).trans q) (λ _ q=>q) λ _ _ q=>q
  rintro rfl
  rcases hc with rfl|hc
  ·rw [hfree] at e;cases e
  ·rw [hfree] at hc;cases hc
 rcases hx with hk|hk
 ·refine wpAny_storeName_local hk hn (λ h' hn' hs=>?_) hcls
  obtain⟨oL,_,_,hoL,_⟩:=id hn
  refine h _ ⟨I.ok,I.os,I.bare,⟨λ b o e n hb hx=>?_,λ b o e n hb hx=>?_,I.base.free,λ b o e hx=>?_,I.base.tups,I.base.frzs,I.base.tbls⟩,⟨_,hn',λ j y v' e1 e2 e3=>?_⟩,λ y c e=>?_,I.free,I.freeC,λ p hp=>?_,tracked ⟨oL,hoL,I.free⟩ hs,by simpa using I.len⟩ ⟨_,hs,.inl rfl⟩
  ·exact (hs.2 b (Nat.ne_of_lt (Nat.lt_of_lt_of_le (Heap.lt_size e) I.ok.above))).trans (I.base.keep b o e n hb hx)
  ·obtain⟨sl,e1⟩:=I.base.slot b o e n hb hx
   exact⟨sl,(hs.2 b (Nat.ne_of_lt (Nat.lt_of_lt_of_le (Heap.lt_size e) I.ok.above))).trans e1⟩
  ·obtain⟨o',e1⟩:=I.base.there b o e hx
   exact⟨o',(hs.2 b (Nat.ne_of_lt (Nat.lt_of_lt_of_le (Heap.lt_size e) I.ok.above))).trans e1⟩
  ·by_cases hj:j=i
   ·subst hj
    rw [hi] at e1;cases e1
    rw [List.getElem?_set_self hiσ] at e2
    cases e2
    exact⟨u,r,.inl ⟨hk,by simp⟩⟩
   ·rw [List.getElem?_set_ne (Ne.symm hj)] at e2
    obtain⟨u',r',q⟩:=hl j y v' e1 e2 e3
    refine⟨u',r',?_⟩
    rcases q with ⟨k,e⟩|⟨k,c,e,z⟩
    ·refine .inl ⟨k,?_⟩
     have:y≠x:=λ e=>hj (Sx hN e1 (e ▸ hi))
     simp [this,e]
    ·exact .inr ⟨k,c,e,z.sameBut hs (cne y c e)⟩
  ·obtain⟨w',z⟩:=I.cell y c e
   exact⟨w',z.sameBut hs (cne y c e)⟩
  ·obtain⟨e,n,ne,nf,d⟩:=I.pin p hp
   exact⟨(hs.2 p.1 ne).trans e,n,ne,nf,d⟩
 ·have hfn:X.fn x=true:=by
   rcases hf with z|z
   ·exact z
   ·rw [z] at hk;cases hk
  obtain⟨c,hc⟩:=I.ok.has x (.inl hk)
  obtain⟨w',z⟩:=I.cell x c hc
  refine wpAny_storeName_cell I.ok.kind hk hc z (λ h' hc' hs=>?_)
  obtain⟨oc,hoc,hocd⟩:=id z
  refine h { s with heap:=h' } ⟨I.ok,I.os,I.bare,⟨λ b o e n hb hx=>?_,λ b o e n hb hx=>?_,I.base.free,λ b o e hx=>?_,I.base.tups,I.base.frzs,I.base.tbls⟩,⟨m,hn.sameBut hs (Ne.symm (cne x c hc)),λ j y v' e1 e2 e3=>?_⟩,λ y c' e=>?_,I.free,I.freeC,λ p hp=>?_,tracked ⟨oc,hoc,I.freeC x c hc⟩ hs,by simpa using I.len⟩ ⟨c,hs,.inr hc⟩
  ·exact (hs.2 b (Nat.ne_of_lt (Nat.lt_of_lt_of_le (Heap.lt_size e) (I.ok.cab x c hfn hc)))).trans (I.base.keep b o e n hb hx)
  ·obtain⟨sl,e1⟩:=I.base.slot b o e n hb hx
   exact⟨sl,(hs.2 b (Nat.ne_of_lt (Nat.lt_of_lt_of_le (Heap.lt_size e) (I.ok.cab x c hfn hc)))).trans e1⟩
  ·obtain⟨o',e1⟩:=I.base.there b o e hx
   exact⟨o',(hs.2 b (Nat.ne_of_lt (Nat.lt_of_lt_of_le (Heap.lt_size e) (I.ok.cab x c hfn hc)))).trans e1⟩
  ·by_cases hj:j=i
   ·subst hj
    rw [hi] at e1;cases e1
    rw [List.getElem?_set_self hiσ] at e2
    cases e2
    exact⟨u,r,.inr ⟨.inl hk,c,hc,hc'⟩⟩
   ·rw [List.getElem?_set_ne (Ne.symm hj)] at e2
    obtain⟨u',r',q⟩:=hl j y v' e1 e2 e3
    refine⟨u',r',?_⟩
    rcases q with q|⟨k,c',e,z'⟩
    ·exact .inl q
    ·refine .inr ⟨k,c',e,z'.sameBut hs ?_⟩
     rintro rfl
     exact hj (Sx hN e1 (I.ok.inj _ _ _ e hc ▸ hi))
  ·by_cases hcc:c'=c
   ·subst hcc;exact⟨_,hc'⟩
   ·obtain⟨w2,z2⟩:=I.cell y c' e
    exact⟨w2,z2.sameBut hs hcc⟩
  ·obtain⟨e,n,ne,nf,d⟩:=I.pin p hp
   refine⟨(hs.2 p.1 ?_).trans e,n,ne,nf,d⟩
   intro q
   rw [q,hoc] at e
   have q':oc=p.2:=Option.some.inj e
   exact d w' (by rw [<-q'];exact hocd)
theorem Uk {M:Model}{A:Around}{E:Value->Shared->Prop}{i:Nat}{x:Str}{v:V}{u:Value}{Q:Unit->Shared->Prop}(I:Inv X pins σ H s) (hN:X.N.Nodup) (hi:X.N[i]?=some x) (hx:Loc X.env.scope x) (r:RelV v u)
  (h:∀ s',Inv X pins (σ.set i (some v)) H s'->Q () s') (hf:X.fn x=true\/X.env.scope.names.lookup x=some .local:=by first|exact .inl rfl|exact .inr rfl|assumption):wpAny M A (storeName X.env x u) Q E s :=
 Ac2 I hN hi hx r (λ s' I' _=>h s' I') hf
theorem Inv.call' {s':Shared}{ch:List Addr}(I:Inv X pins σ H s) (ho:s'.os=s.os) (u:Un (frs X.stack) ch H H' s.heap s'.heap) (hok:HOk X.prog X.w H' s'.heap) (hg:AllBare s'.gens)
  (hch:∀ b∈ch,(b∈X.ex\/X.s₀.heap.objs.size<=b)/\b≠X.env.locals/\(∀ x c,X.env.cells.lookup x=some c->c≠b)/\∀ p∈X.pn++pins,p.1≠b):Inv X pins σ H' s':=by
 obtain⟨h',g',d',t',o'⟩:=s'
 have e:o'=s.os:=ho
 subst e
 exact I.call (g':=g') (t':=t') (d':=d') u hok hg hch
end
abbrev XK:=Value->Option Addr->Hp->Prop
abbrev St:=List (Option V)
abbrev VK:=V->Hp->Prop
abbrev TE:=St->Hp->VK->Prop
abbrev TT:=St->Hp->(Bool->Hp->Prop)->Prop
abbrev TA:=St->Hp->(List V->Hp->Prop)->Prop
structure Ends where
 nx:St->Hp->Prop
 rt:VK
 bk:St->Hp->Prop:=λ _ _=>False
 ct:St->Hp->Prop:=λ _ _=>False
abbrev TS:=Ends->St->Hp->Prop
def EP (X:Cx) (pins:List (Addr × Obj)) (σ:St) (Q:VK) (u:Value) (s':Shared):Prop:=∃ v H',Inv X pins σ H' s'/\RelV v u/\Q v H'
def TP (X:Cx) (pins:List (Addr × Obj)) (σ:St) (Q:Bool->Hp->Prop) (b:Bool) (s':Shared):Prop:=∃ H',Inv X pins σ H' s'/\Q b H'
def AP (X:Cx) (pins:List (Addr × Obj)) (σ:St) (Q:List V->Hp->Prop) (us:List Value) (s':Shared):Prop:=∃ vs H',Inv X pins σ H' s'/\Vals vs us/\Q vs H'
def SP (X:Cx) (pins:List (Addr × Obj)) (D:Ends) (f:Flow) (s':Shared):Prop :=
 match f with
 | .next=>∃ σ' H',Inv X pins σ' H' s'/\D.nx σ' H'
 | .brk=>∃ σ' H',Inv X pins σ' H' s'/\D.bk σ' H'
 | .cont=>∃ σ' H',Inv X pins σ' H' s'/\D.ct σ' H'
 | .ret u=>∃ v σ' H',Inv X pins σ' H' s'/\RelV v u/\D.rt v H'
def PE (X:Cx) (e:Expr) (t:TE):Prop :=
 ∀ (pins:List (Addr × Obj)) (s:Shared) (σ:St) (H:Hp) (Q:VK),Inv X pins σ H s->t σ H Q->wpAny (model X.prog X.w) X.A (eval e X.env) (EP X pins σ Q) X.xe s
def PT (X:Cx) (e:Expr) (t:TT):Prop :=
 ∀ (pins:List (Addr × Obj)) (s:Shared) (σ:St) (H:Hp) (Q:Bool->Hp->Prop),Inv X pins σ H s->t σ H Q->wpAny (model X.prog X.w) X.A (isTrue e X.env (eval e X.env)) (TP X pins σ Q) X.xe s
def PW (X:Cx) (e:Expr) (t:TT):Prop :=
 ∀ (whole:Sem Value) (pins:List (Addr × Obj)) (s:Shared) (σ:St) (H:Hp) (Q:Bool->Hp->Prop),Inv X pins σ H s->t σ H Q->wpAny (model X.prog X.w) X.A (isTrue e X.env whole) (TP X pins σ Q) X.xe s
theorem PW.pt {X:Cx}{e:Expr}{t:TT}(h:PW X e t):PT X e t:=h _
def PA (X:Cx) (es:List Expr) (t:TA):Prop :=
 ∀ (pos:Pos) (pins:List (Addr × Obj)) (s:Shared) (σ:St) (H:Hp) (Q:List V->Hp->Prop),Inv X pins σ H s->t σ H Q->wpAny (model X.prog X.w) X.A (spliced (backTo pos (starEach es X.env))) (AP X pins σ Q) X.xe s
def PS (X:Cx) (st:Stmt) (t:TS):Prop :=
 ∀ (pins:List (Addr × Obj)) (s:Shared) (σ:St) (H:Hp) (D:Ends),Inv X pins σ H s->t D σ H->wpAny (model X.prog X.w) X.A (exec st X.env) (SP X pins D) X.xe s
def PSs (X:Cx) (st:List Stmt) (t:TS):Prop :=
 ∀ (pins:List (Addr × Obj)) (s:Shared) (σ:St) (H:Hp) (D:Ends),Inv X pins σ H s->t D σ H->wpAny (model X.prog X.w) X.A (execs st X.env) (SP X pins D) X.xe s
theorem thn {α:Type}{t:Sem α}{Q Q':α->Shared->Prop}{M:Model}{A:Around}{E:Value->Shared->Prop}{s:Shared}(h:wpAny M A t Q E s) (hQ:∀ a s,Q a s->Q' a s):wpAny M A t Q' E s:=wpAny_mono h hQ λ _ _ x=>x
end L2
namespace L2
open PySem PySem.Spec PyProof.Rows
section
variable {X:Cx}
noncomputable def Dr (i:Nat):TE:=λ σ H Q=>∃ v,σ[i]?=some (some v)/\Q v H
noncomputable def tC (v:V):TE:=λ _ H Q=>Q v H
theorem Kl {i:Nat}{x:Str}{pos:Pos}(hN:X.N[i]?=some x) (hv:Vis X.env.scope x) (hd:(x == ("__debug__":Str))=false:=by decide) (hcd:(x == ("__classdict__":Str))=false:=by decide):PE X (.Name x pos) (Dr i):=by
 intro pins s σ H Q I h
 obtain⟨v,e,h⟩:=h
 obtain⟨m,hn,hl⟩:=I.loc
 obtain⟨u,r,l⟩:=hl i x v hN e hv
 have fin:EP X pins σ Q u s:=⟨v,H,I,r,h⟩
 rcases l with ⟨hk,hm⟩|⟨hk,c,hc,hcell⟩
 ·exact wpAny_Name (wpAny_loadName_local I.ok.kind hk hn hm fin) hd
 ·rcases hk with hk|hk
  ·exact wpAny_Name (wpAny_loadName_cell I.ok.kind hk hc hcell fin) hd
  ·exact wpAny_Name (wpAny_loadName_free I.ok.kind hk hc hcell fin hcd) hd
theorem Cu {i j pos}:PE X (.Constant (.int i) j pos) (tC (.int i)):=λ _ _ _ H _ I h=>wpAny_Constant_int ⟨.int i,H,I.tok _,⟨_,rfl⟩,h⟩
theorem Akk {b j pos}:PE X (.Constant (.bool b) j pos) (tC (.bl b)):=λ _ _ _ H _ I h=>Constant_bool ⟨.bl b,H,I,rfl,h⟩
theorem Aq1 {j pos}:PE X (.Constant .none j pos) (tC .non):=λ _ _ _ H _ I h=>Constant_none ⟨.non,H,I,rfl,h⟩
theorem Zr {x j pos}:PE X (.Constant (.str x) j pos) (tC (.str x)):=λ _ _ _ H _ I h=>Calls.Constant_str ⟨.str x,H,I.tok _,⟨_,rfl⟩,h⟩
def Gl (X:Cx) (x:Str):Prop:=X.env.kindOf x=some .globalImplicit
theorem Mf {E:Value->Shared->Prop}{pins:List (Addr × Obj)}{s:Shared}{σ:St}{H:Hp}{x:Str}{u:Value}{pos:Pos}{Q:Value->Shared->Prop}(I:Inv X pins σ H s) (hg:Gl X x) (hm:X.mg x=some u) (h:Q u s)
  (hd:(x == ("__debug__":Str))=false:=by decide):wpAny (model X.prog X.w) X.A (eval (.Name x pos) X.env) Q E s :=
 Calls.Name_function_global I.ok.kind hg (Calls.loadGlobal_global (by rw [I.ok.glob];exact I.mod.glob.keeps I.bk) hm h) hd
theorem Qf {E:Value->Shared->Prop}{pins:List (Addr × Obj)}{s:Shared}{σ:St}{H:Hp}{x:Str}{u:Value}{pos:Pos}{Q:Value->Shared->Prop}(I:Inv X pins σ H s) (hg:Gl X x) (hm:X.mg x=none) (hv:bootBuiltins x=some u) (h:Q u s)
  (hn:x≠"__name__":=by decide) (hd:(x == ("__debug__":Str))=false:=by decide):wpAny (model X.prog X.w) X.A (eval (.Name x pos) X.env) Q E s:=by
 obtain⟨mb,h1,h2⟩:=I.mod.blt
 exact Calls.Name_function_global I.ok.kind hg (Calls.loadGlobal_builtin (by rw [I.ok.glob];exact I.mod.glob.keeps I.bk) hm (by rw [I.ok.blt];exact h1.keeps I.bk) ((h2 x hn).trans hv) h) hd
theorem Ms {x:Str}{v:V}{u:Value}{pos:Pos}(hg:Gl X x) (hm:X.mg x=some u) (r:RelV v u) (hd:(x == ("__debug__":Str))=false:=by decide):PE X (.Name x pos) (tC v) :=
 λ _ _ _ H _ I h=>Mf I hg hm ⟨v,H,I,r,h⟩ hd
theorem Aj8 {x:Str}{v:V}{u:Value}{pos:Pos}(hg:Gl X x) (hm:X.mg x=none) (hv:bootBuiltins x=some u) (r:RelV v u) (hn:x≠"__name__":=by decide) (hd:(x == ("__debug__":Str))=false:=by decide):PE X (.Name x pos) (tC v) :=
 λ _ _ _ H _ I h=>Qf I hg hm hv ⟨v,H,I,r,h⟩ hn hd
variable {a b:Expr}{ta tb:TE}{pos:Pos}
def PC (X:Cx) (op:CmpOp) (a b:Expr) (t:TE):Prop :=
 ∀ (pins:List (Addr × Obj)) (s:Shared) (σ:St) (H:Hp) (Q:VK),Inv X pins σ H s->t σ H Q →
  wpAny (model X.prog X.w) X.A (eval a X.env) (λ v s₁=>wpAny (model X.prog X.w) X.A (eval b X.env) (λ u s₂=>wpAny (model X.prog X.w) X.A (compareOp op v u) (EP X pins σ Q) X.xe s₂) X.xe s₁) X.xe s
theorem Aam (b:Expr) {op:CmpOp}(h:op≠.In) (h2:op≠.NotIn):behindInMarks op b=false:=by
 have e1:(op == CmpOp.In)=false:=by cases op<;>first|rfl|exact absurd rfl h
 have e2:(op == CmpOp.NotIn)=false:=by cases op<;>first|rfl|exact absurd rfl h2
 cases b<;>simp [behindInMarks,e1,e2]
noncomputable def Asd (ta:TE):TE:=λ σ H Q=>ta σ H λ x H1=>Q (.bl (decide (x=.non))) H1
theorem RelV.none_iff {x:V}{v:Value}(r:RelV x v):(v == Value.none)=decide (x=.non):=by
 cases x with
 | non=>cases r;rfl
 | bl _=>cases r;rfl
 | int _=>obtain⟨t,rfl⟩:=r;rfl
 | str _=>obtain⟨t,rfl⟩:=r;rfl
 | byt _=>obtain⟨t,rfl⟩:=r;rfl
 | flt _=>obtain⟨t,rfl⟩:=r;rfl
 | ref _=>cases r;rfl
 | ty _=>cases r;rfl
theorem Ajw {j pos'}(ha:PE X a ta):PC X .Is a (.Constant .none j pos') (Asd ta):=by
 intro pins s σ H Q I h
 refine thn (ha pins s σ H _ I h) ?_
 rintro v s1 ⟨x,H1,I1,r1,q1⟩
 exact Constant_none (is_none_gen ⟨.bl _,H1,I1,by rw [r1.none_iff];rfl,q1⟩)
noncomputable def tB (t:TE):TT:=λ σ H Q=>t σ H λ x H1=>∃ c,x=.bl c/\Q c H1
theorem Aoq {op:CmpOp}{t:TE}(h:PC X op a b t) (h1:behindInMarks op b=false:=by first|exact Aam _ (by decide) (by decide)|rfl):PE X (.Compare a [op] [b] pos) t:=λ pins s σ H Q I hw=>wpAny_Compare1 (h pins s σ H Q I hw) h1
theorem R8 {op:CmpOp}{t:TE}(h:PC X op a b t) (h1:behindInMarks op b=false:=by first|exact Aam _ (by decide) (by decide)|rfl):PT X (.Compare a [op] [b] pos) (tB t):=by
 intro pins s σ H Q I hw
 refine wpAny_isTrue_Compare1 (thn (h pins s σ H _ I hw) λ v s1 h1=>thn h1 λ u s2 h2=>thn h2 ?_) h1
 rintro c s3 ⟨x,H1,I1,r1,q1⟩
 obtain⟨d,rfl,q⟩:=q1
 cases r1
 exact wpAny_truthy_bool ⟨H1,I1,q⟩
theorem Afd {e:Expr}{t:TE}(h:PE X e t) (he:∀ whole,isTrue e X.env whole=(do let v ← whole;standAt e.pos;holding [v] (truthy v)):=by intro _;rfl):PT X e (tB t):=by
 intro pins s σ H Q I hw
 refine isTrue_plain (thn (h pins s σ H _ I hw) ?_) (he _)
 rintro v s1 ⟨x,H1,I1,r1,q1⟩
 obtain⟨d,rfl,q⟩:=q1
 cases r1
 exact wpAny_truthy_bool ⟨H1,I1,q⟩
variable {tA tB':TT}{rest:List Expr}
noncomputable def Ayg (t u:TT):TT:=λ σ H Q=>t σ H λ c H1=>if c=true then u σ H1 Q else Q false H1
noncomputable def tOr (t u:TT):TT:=λ σ H Q=>t σ H λ c H1=>if c=true then Q true H1 else u σ H1 Q
noncomputable def Aue (t:TT):TT:=λ σ H Q=>t σ H λ c H1=>Q (!c) H1
theorem Alj (ha:PT X a tA):PW X (.BoolOp .And [a] pos) tA:=by
 intro wh pins s σ H Q I h
 refine isTrue_and (thn (ha pins s σ H Q I h) λ c s1 e=>?_)
 cases c with
 | true=>exact isTrue_and_nil e
 | false=>exact e
theorem Ae8 (ha:PT X a tA):PW X (.BoolOp .Or [a] pos) tA:=by
 intro wh pins s σ H Q I h
 refine isTrue_or (thn (ha pins s σ H Q I h) λ c s1 e=>?_)
 cases c with
 | false=>exact isTrue_or_nil e
 | true=>exact e
theorem Anp (ha:PT X a tA) (hb:PW X (.BoolOp .And (b :: rest) pos) tB'):PW X (.BoolOp .And (a :: b :: rest) pos) (Ayg tA tB'):=by
 intro wh pins s σ H Q I h
 refine isTrue_and (thn (ha pins s σ H _ I h) ?_)
 rintro c s1 ⟨H1,I1,q1⟩
 cases c with
 | true=>exact hb wh pins s1 σ H1 Q I1 q1
 | false=>exact⟨H1,I1,q1⟩
theorem Amb (ha:PT X a tA) (hb:PW X (.BoolOp .Or (b :: rest) pos) tB'):PW X (.BoolOp .Or (a :: b :: rest) pos) (tOr tA tB'):=by
 intro wh pins s σ H Q I h
 refine isTrue_or (thn (ha pins s σ H _ I h) ?_)
 rintro c s1 ⟨H1,I1,q1⟩
 cases c with
 | true=>exact⟨H1,I1,q1⟩
 | false=>exact hb wh pins s1 σ H1 Q I1 q1
theorem Aao (ha:PT X a tA):PT X (.UnaryOp .Not a pos) (Aue tA):=by
 intro pins s σ H Q I h
 exact isTrue_not (ha pins s σ H (λ c H1=>Q (!c) H1) I h)
noncomputable def Atd (ta tb:TE):TE:=λ σ H Q=>ta σ H λ x H1=>∃ c,x=.bl c/\if c=true then tb σ H1 Q else Q (.bl false) H1
theorem Apw {op}{t:TE}(h:PE X a t):PE X (.BoolOp op [a] pos) t:=λ pins s σ H Q I hw=>BoolOp_one (h pins s σ H Q I hw)
theorem Ap3 (ha:PE X a ta) (hb:PE X (.BoolOp .And (b :: rest) pos) tb):PE X (.BoolOp .And (a :: b :: rest) pos) (Atd ta tb):=by
 intro pins s σ H Q I h
 refine BoolOp_and (thn (ha pins s σ H _ I h) ?_)
 rintro v s1 ⟨x,H1,I1,r1,q1⟩
 obtain⟨c,rfl,q1⟩:=q1
 cases r1
 refine wpAny_truthy_bool ?_
 cases c with
 | true=>exact hb pins s1 σ H1 Q I1 q1
 | false=>exact⟨.bl false,H1,I1,rfl,q1⟩
noncomputable def tIf (t:TT) (ta tb:TE):TE:=λ σ H Q=>t σ H λ c H1=>if c=true then ta σ H1 Q else tb σ H1 Q
theorem Aau {c:Expr}(hc:PT X c tA) (ha:PE X a ta) (hb:PE X b tb):PE X (.IfExp c a b pos) (tIf tA ta tb):=by
 intro pins s σ H Q I h
 refine wpAny_IfExp (thn (hc pins s σ H _ I h) ?_)
 rintro d s1 ⟨H1,I1,q1⟩
 cases d with
 | true=>exact ha pins s1 σ H1 Q I1 q1
 | false=>exact hb pins s1 σ H1 Q I1 q1
end
end L2
namespace L2
open PySem PySem.Spec PyProof.Rows
def SqL (K:PySem.W.Frag) (H:Hp) (a:Addr) (xs:List V):Prop :=
 Rd H a (.lst xs) ∨
  ∃ (o:Obj) (its:Array Value) (n:Nat),K.lookup a=some o/\o.cls=.type "list"/\o.dict=none/\o.data=.seq its n/\its.size<=sizeLine/\Vals xs its.toList
def SqT (K:PySem.W.Frag) (H:Hp) (a:Addr) (xs:List V):Prop :=
 Rd H a (.tup xs) ∨
  ∃ (o:Obj) (its:Array Value) (n:Nat),K.lookup a=some o/\o.cls=.type "tuple"/\o.data=.seq its n/\its.size<=sizeLine/\Vals xs its.toList
noncomputable def Axz:Value->Option V
 | .none=>some .non
 | .bool b=>some (.bl b)
 | .int i _=>some (.int i)
 | .str x _=>some (.str x)
 | .bytes b _=>some (.byt b)
 | .float b _=>some (.flt b)
 | .ref a=>some (.ref a)
 | .type n=>some (.ty n)
 | _=>none
theorem RelV.abs {x:V}{u:Value}(r:RelV x u):Axz u=some x:=by
 cases x with
 | non=>cases r;rfl
 | bl _=>cases r;rfl
 | int _=>obtain⟨t,rfl⟩:=r;rfl
 | str _=>obtain⟨t,rfl⟩:=r;rfl
 | byt _=>obtain⟨t,rfl⟩:=r;rfl
 | flt _=>obtain⟨t,rfl⟩:=r;rfl
 | ref _=>cases r;rfl
 | ty _=>cases r;rfl
theorem RelV.inj {x y:V}{u:Value}(r:RelV x u) (q:RelV y u):x=y:=Option.some.inj (r.abs.symm.trans q.abs)
theorem Vals.inj:∀ {xs ys:List V}{us:List Value},Vals xs us->Vals ys us->xs=ys
 | _,_,_,.nil,.nil=>rfl
 | _,_,_,.cons r t,.cons r' t'=>by rw [r.inj r',Vals.inj t t']
section
variable {X:Cx}{pins:List (Addr × Obj)}{σ:St}{H:Hp}{s:Shared}{a:Addr}{xs ys:List V}
theorem SqL.of {K:PySem.W.Frag}(h:H a=some (.lst xs)):SqL K H a xs:=.inl (.inl h)
theorem SqT.of {K:PySem.W.Frag}(h:H a=some (.tup xs)):SqT K H a xs:=.inl (.inl h)
theorem Inv.list (I:Inv X pins σ H s) (h:SqL X.K H a xs):∃ its:List Value,Vals xs its/\PlainL s.heap a its.toArray/\xs.length<=sizeLine:=by
 rcases h with h|⟨o,its,n,hk,hc,hd,hs,hz,r⟩
 ·obtain⟨z,its,n,r,e⟩:=h.ok I.hok
  exact⟨its,r,⟨_,n,e,rfl,rfl,rfl⟩,z⟩
 ·refine⟨its.toList,r,⟨o,n,I.kIn a o hk,hc,hd,by simpa using hs⟩,?_⟩
  have e:=r.length
  simp only [Array.length_toList] at e
  omega
theorem Inv.tuple (I:Inv X pins σ H s) (h:SqT X.K H a xs):∃ its:List Value,Vals xs its/\IsTup s.heap a its.toArray/\xs.length<=sizeLine:=by
 rcases h with h|⟨o,its,n,hk,hc,hs,hz,r⟩
 ·obtain⟨z,its,r,p⟩:=h.ok I.hok
  exact⟨its,r,p,z⟩
 ·refine⟨its.toList,r,⟨o,I.kIn a o hk,hc,n,by simpa using hs⟩,?_⟩
  have e:=r.length
  simp only [Array.length_toList] at e
  omega
theorem Inv.list_inj (I:Inv X pins σ H s) (h:SqL X.K H a xs) (h':SqL X.K H a ys):xs=ys:=by
 obtain⟨its,r,⟨o,n,e,_,_,d⟩,_⟩:=I.list h
 obtain⟨its',r',⟨o',n',e',_,_,d'⟩,_⟩:=I.list h'
 rw [e] at e';cases e'
 rw [d] at d'
 injection d' with d1 _
 have:its=its':=by simpa using congrArg Array.toList d1
 subst this
 exact r.inj r'
theorem Inv.tuple_inj (I:Inv X pins σ H s) (h:SqT X.K H a xs) (h':SqT X.K H a ys):xs=ys:=by
 obtain⟨its,r,⟨o,e,_,n,d⟩,_⟩:=I.tuple h
 obtain⟨its',r',⟨o',e',_,n',d'⟩,_⟩:=I.tuple h'
 rw [e] at e';cases e'
 rw [d] at d'
 injection d' with d1 _
 have:its=its':=by simpa using congrArg Array.toList d1
 subst this
 exact r.inj r'
end
abbrev Cx.wish (X:Cx) (E:Value->Shared->Prop):Cx:={ X with xe:=E }
abbrev Cx.nox (X:Cx):Cx:=X.wish λ _ _=>False
theorem Cx.Ok.wish {X:Cx}(ok:X.Ok) (E:Value->Shared->Prop):(X.wish E).Ok :=
 ⟨ok.mod,ok.kind,ok.glob,ok.blt,ok.above,ok.inj,ok.has,ok.cab,ok.hd,ok.frames,ok.stk,ok.exf,ok.bs,ok.bsz,ok.noex,ok.exfs,ok.funs,ok.frf⟩
theorem Cx.Ok.unwish {X:Cx}{E:Value->Shared->Prop}(ok:(X.wish E).Ok):X.Ok :=
 ⟨ok.mod,ok.kind,ok.glob,ok.blt,ok.above,ok.inj,ok.has,ok.cab,ok.hd,ok.frames,ok.stk,ok.exf,ok.bs,ok.bsz,ok.noex,ok.exfs,ok.funs,ok.frf⟩
section
variable {X:Cx}{pins:List (Addr × Obj)}{σ:St}{H:Hp}{s:Shared}{E:Value->Shared->Prop}
theorem Inv.wish (I:Inv X pins σ H s) (E:Value->Shared->Prop):Inv (X.wish E) pins σ H s:=⟨I.ok.wish E,I.os,I.bare,I.base,I.loc,I.cell,I.free,I.freeC,I.pin,I.hok,I.len⟩
theorem Inv.unwish (I:Inv (X.wish E) pins σ H s):Inv X pins σ H s:=⟨I.ok.unwish,I.os,I.bare,I.base,I.loc,I.cell,I.free,I.freeC,I.pin,I.hok,I.len⟩
theorem SP.unwish {D:Ends}{f:Flow}{s':Shared}(h:SP (X.wish E) pins D f s'):SP X pins D f s':=by
 cases f with
 | next=>obtain⟨σ',H',I,q⟩:=h;exact⟨σ',H',I.unwish,q⟩
 | brk=>obtain⟨σ',H',I,q⟩:=h;exact⟨σ',H',I.unwish,q⟩
 | cont=>obtain⟨σ',H',I,q⟩:=h;exact⟨σ',H',I.unwish,q⟩
 | ret u=>obtain⟨v,σ',H',I,r,q⟩:=h;exact⟨v,σ',H',I.unwish,r,q⟩
theorem PT.nox {e:Expr}{t:TT}(h:PT X.nox e t):PT X e t:=λ pins s σ H Q I hw =>
 wpAny_mono (h pins s σ H Q (I.wish _) hw) (λ _ _ ⟨H',I',q⟩=>⟨H',I'.unwish,q⟩) λ _ _ z=>False.elim z
theorem PSs.nox {st:List Stmt}{t:TS}(h:PSs X.nox st t):PSs X st t:=λ pins s σ H D I hw =>
 wpAny_mono (h pins s σ H D (I.wish _) hw) (λ _ _ q=>q.unwish) λ _ _ z=>False.elim z
end
section
variable {X:Cx}{st:Stmt}{rest:List Stmt}{t u:TS}{e:Expr}{te:TE}{pos:Pos}
noncomputable def Ul:TS:=λ D σ H=>D.nx σ H
noncomputable def Mw (t u:TS):TS:=λ D σ H=>t { D with nx:=u D } σ H
theorem Gv:PSs X [] Ul:=λ _ _ σ H _ I h=>wpAny_execs_nil ⟨σ,H,I,h⟩
theorem Bg (h1:PS X st t) (h2:PSs X rest u):PSs X (st :: rest) (Mw t u):=by
 intro pins s σ H D I h
 refine wpAny_execs_cons (thn (h1 pins s σ H { D with nx:=u D } I h) λ f s1 q=>?_)
 cases f with
 | next =>
  obtain⟨σ',H',I',q⟩:=q
  exact h2 pins s1 σ' H' D I' q
 | ret v=>exact q
 | brk=>exact q
 | cont=>exact q
theorem Ca (h1:PS X st t):PSs X [st] t:=by
 intro pins s σ H D I h
 refine wpAny_execs_cons (thn (h1 pins s σ H D I h) λ f s1 q=>?_)
 cases f with
 | next=>exact wpAny_execs_nil q
 | ret v=>exact q
 | brk=>exact q
 | cont=>exact q
theorem Inv.quiet {pins:List (Addr × Obj)}{σ:St}{H:Hp}{s:Shared}(I:Inv X pins σ H s):interactive X.env=false:=by simp [interactive,I.ok.kind]
noncomputable def Ad4 (te:TE):TS:=λ D σ H=>te σ H λ _ H1=>D.nx σ H1
theorem Mj (he:PE X e te) (hs:swapsWith e none pos.line X.env=pure false:=by rfl):PS X (.Expr e pos) (Ad4 te):=by
 intro pins s σ H D I h
 exact wpAny_Expr_any (thn (he pins s σ H _ I h) λ v s1 ⟨x,H1,I1,r1,q1⟩=>⟨σ,H1,I1,q1⟩) I.quiet hs
noncomputable def Z6 (te:TE):TS:=λ D σ H=>te σ H D.rt
theorem G4 (he:PE X e te):PS X (.Return (some e) pos) (Z6 te):=by
 intro pins s σ H D I h
 exact wpAny_Return_some (thn (he pins s σ H _ I h) λ v s1 ⟨x,H1,I1,r1,q1⟩=>⟨x,σ,H1,I1,r1,q1⟩)
noncomputable def Aic (c:TT) (t u:TS):TS:=λ D σ H=>c σ H λ b H1=>if b=true then t D σ H1 else u D σ H1
theorem Lb {c:Expr}{a b:List Stmt}{tc:TT}(hc:PT X c tc) (ha:PSs X a t) (hb:PSs X b u):PS X (.If c a b pos) (Aic tc t u):=by
 intro pins s σ H D I h
 refine wpAny_If (thn (hc pins s σ H _ I h) ?_)
 rintro d s1 ⟨H1,I1,q1⟩
 cases d with
 | true=>exact ha pins s1 σ H1 D I1 q1
 | false=>exact hb pins s1 σ H1 D I1 q1
noncomputable def Aqk:TS:=λ _ _ _=>False
theorem Afs {sts:List Stmt}:PSs X sts Aqk:=λ _ _ _ _ _ _ h=>h.elim
end
abbrev TG:=V->St->Hp->(St->Hp->Prop)->Prop
abbrev TGs:=List V->St->Hp->(St->Hp->Prop)->Prop
def PG (X:Cx) (target:Expr) (t:TG):Prop :=
 ∀ (pins:List (Addr × Obj)) (s:Shared) (σ:St) (H:Hp) (v:V) (u:Value) (Q:St->Hp->Prop),Inv X pins σ H s->RelV v u->t v σ H Q →
  wpAny (model X.prog X.w) X.A (assign target X.env u) (λ _ s'=>∃ σ' H',Inv X pins σ' H' s'/\Q σ' H') X.xe s
def PGs (X:Cx) (ts:List Expr) (t:TGs):Prop :=
 ∀ (pins:List (Addr × Obj)) (s:Shared) (σ:St) (H:Hp) (vs:List V) (us:List Value) (Q:St->Hp->Prop),Inv X pins σ H s->Vals vs us->t vs σ H Q →
  wpAny (model X.prog X.w) X.A (assignInOrder ((assignEach ts X.env).map (·.2)) us) (λ _ s'=>∃ σ' H',Inv X pins σ' H' s'/\Q σ' H') X.xe s
section
variable {X:Cx}{pos:Pos}
noncomputable def Hg (i:Nat):TG:=λ v σ H Q=>Q (σ.set i (some v)) H
theorem U5 {i:Nat}{x:Str}(hN:X.N.Nodup) (hi:X.N[i]?=some x) (hx:Loc X.env.scope x) (hf:X.fn x=true\/X.env.scope.names.lookup x=some .local:=by first|exact .inl rfl|exact .inr rfl|assumption):PG X (.Name x pos) (Hg i):=by
 intro pins s σ H v u Q I r h
 exact wpAny_assign_Name (Uk I hN hi hx r (λ s' I'=>⟨_,H,I',h⟩) hf)
noncomputable def Axb:TGs:=λ vs σ H Q=>vs=[]/\Q σ H
noncomputable def Aso (t:TG) (u:TGs):TGs:=λ vs σ H Q=>∃ v r,vs=v :: r/\t v σ H λ σ' H'=>u r σ' H' Q
theorem Ali:PGs X [] Axb:=by
 intro pins s σ H vs us Q I r h
 obtain⟨e,h⟩:=h
 subst e
 cases r
 exact assignInOrder_nil ⟨σ,H,I,h⟩
theorem Z2 {e:Expr}{es:List Expr}{t:TG}{u:TGs}(h1:PG X e t) (h2:PGs X es u)
  (hs:(assignEach (e :: es) X.env).map (·.2)=assign e X.env :: (assignEach es X.env).map (·.2):=by rfl):PGs X (e :: es) (Aso t u):=by
 intro pins s σ H vs us Q I r h
 obtain⟨v,vr,e1,h⟩:=h
 subst e1
 cases r with
 | cons r rr =>
  rw [hs]
  refine assignInOrder_cons (thn (h1 pins s σ H _ _ _ I r h) ?_)
  rintro _ s1 ⟨σ1,H1,I1,q1⟩
  exact h2 pins s1 σ1 H1 _ _ Q I1 rr q1
noncomputable def Axr (K:PySem.W.Frag) (n:Nat) (t:TGs):TG:=λ v σ H Q=>∃ a xs,v=.ref a/\SqT K H a xs/\xs.length=n/\t xs σ H Q
theorem Anl {es:List Expr}{k:Nat}{t:TGs}{n:Nat}(hc:X.calm=true) (h:PGs X es t)
  (hn:(assignEach es X.env).length=n:=by rfl) (hst:(assignEach es X.env).findIdx? (·.1)=none:=by rfl):PG X (.Tuple es k pos) (Axr X.K n t):=by
 intro pins s σ H v u Q I r hw
 obtain⟨a,xs,e1,hq,hl,hw⟩:=hw
 subst e1
 cases r
 obtain⟨its,rv,ht,hz⟩:=I.tuple hq
 refine assign_Tuple_tuple (I.ok.hd hc) ht (by simp [hn,<-hl,rv.length]) hst λ h' hx=>?_
 have I1:Inv X pins σ H { s with heap:=h' }:=I.kept (t':=s.toks) λ b o e=>hx b o (Nat.ne_of_lt (Heap.lt_size e)) e
 exact h pins _ σ H xs _ Q I1 (by simpa using rv) hw
noncomputable def R6 (te:TE) (g:TG):TS:=λ D σ H=>te σ H λ x H1=>g x σ H1 D.nx
theorem Er {i:Nat}{x:Str}{e:Expr}{te:TE}{pos':Pos}(hN:X.N.Nodup) (hi:X.N[i]?=some x) (hx:Loc X.env.scope x) (he:PE X e te) (hs:swapsWith e (some (.Name x pos')) pos.line X.env=pure false:=by rfl) (hf:X.fn x=true\/X.env.scope.names.lookup x=some .local:=by first|exact .inl rfl|exact .inr rfl|assumption) :
  PS X (.Assign [.Name x pos'] e pos) (R6 te (Hg i)):=by
 intro pins s σ H D I h
 refine wpAny_Assign_Name (thn (he pins s σ H _ I h) ?_) hs
 rintro v s1 ⟨y,H1,I1,r1,q1⟩
 exact Uk I1 hN hi hx r1 (λ s2 I2=>⟨_,H1,I2,q1⟩) hf
end
section
variable {X:Cx}{pos:Pos}
noncomputable def Ajh (c:TT) (tb:TS):TS:=λ D σ H=>∃ W:Nat->St->Hp->Prop,(∃ m,W m σ H)/\∀ m σ H,W m σ H →
 c σ H λ b H1=>if b=true then ∃ N:St->Hp->Prop,(∀ σ' H',N σ' H'->∃ m',m'<m/\W m' σ' H')/\tb { D with nx:=N,ct:=N,bk:=D.nx } σ H1 else D.nx σ H1
theorem Aal {c:Expr}{body:List Stmt}{tc:TT}{tb:TS}(hp:PassesOwn (model X.prog X.w) X.A X.env X.xe) (hc:PT X c tc) (hb:PSs X body tb):PS X (.While c body [] pos) (Ajh tc tb):=by
 intro pins s σ H D I h
 obtain⟨W,⟨m0,w0⟩,turn⟩:=h
 refine wpAny_While (codeAny_whileLoop (λ n s'=>∃ σ' H',Inv X pins σ' H' s'/\W n σ' H') ?_ m0 ⟨σ,H,I,w0⟩)
 rintro n s1 ⟨σ1,H1,I1,w1⟩
 refine wpAny_passesOwn hp (thn (hc pins s1 σ1 H1 _ I1 (turn n σ1 H1 w1)) ?_)
 rintro b s2 ⟨H2,I2,q2⟩
 cases b with
 | true =>
  obtain⟨N,hN,q2⟩:=q2
  rw [if_pos rfl]
  refine wpAny_passesOwn hp (thn (hb pins s2 σ1 H2 _ I2 q2) λ f s3 q3=>?_)
  cases f with
  | next =>
   obtain⟨σ3,H3,I3,n3⟩:=q3
   obtain⟨m',hm,w3⟩:=hN σ3 H3 n3
   exact⟨m',hm,σ3,H3,I3,w3⟩
  | cont =>
   obtain⟨σ3,H3,I3,n3⟩:=q3
   obtain⟨m',hm,w3⟩:=hN σ3 H3 n3
   exact⟨m',hm,σ3,H3,I3,w3⟩
  | brk=>exact q3
  | ret v=>exact q3
 | false =>
  rw [if_neg Bool.false_ne_true]
  exact wpAny_execs_nil ⟨σ1,H2,I2,q2⟩
end
structure It where
 go:Nat->Hp->Prop
 yld:Nat->Hp->V->Hp->Prop
 stop:Nat->Hp->Prop
def Ab1 (X:Cx) (pins:List (Addr × Obj)) (H:Hp) (b:Addr):Prop :=
 H b=none/\b≠X.env.locals/\b∉X.fs/\(b∈X.ex\/X.s₀.heap.objs.size<=b)/\(∀ x c,X.env.cells.lookup x=some c->c≠b)/\∀ p∈X.pn++pins,p.1≠b
theorem Inv.fpOk {X:Cx}{pins:List (Addr × Obj)}{σ:St}{H H':Hp}{s:Shared}{b:Addr}(I:Inv X pins σ H s) (hb:s.heap.objs.size<=b) (hn:H' b=none):Ab1 X pins H' b:=by
 refine⟨hn,Nat.ne_of_gt (Nat.lt_of_lt_of_le I.lt hb),I.nofs hb,.inr (Nat.le_trans I.sz hb),λ x c e z=>?_,λ p hp z=>?_⟩
 ·obtain⟨v,q⟩:=I.cell x c e
  exact absurd (Nat.lt_of_lt_of_le q.lt (by rw [z];exact hb)) (Nat.lt_irrefl _)
 ·exact absurd (Nat.lt_of_lt_of_le (Heap.lt_size (I.pin p hp).1) (by rw [z];exact hb)) (Nat.lt_irrefl _)
structure Turn (P:Program) (w:World) (K:PySem.W.Frag) (tg:Expr) (J:It) (fp:List Addr) (it:Addr) (tn:Nat->Heap->Prop):Prop where
 mem:it∈fp
 obj:∀ i h,tn i h->∀ b∈fp,∃ o,h.get? b=some o/\∀ v,o.data≠.cell v
 keep:∀ i h h',tn i h->(∀ b∈fp,∀ o,h.get? b=some o->h'.get? b=some o)->tn i h'
 item:∀ (X:Cx),X.prog=P->X.w=w->X.K=K->X.calm=true->∀ (i:Nat) (pins:List (Addr × Obj)) (s:Shared) (σ:St) (H:Hp) (E:Value->Shared->Prop),Inv X pins σ H s->(∀ b∈fp,Ab1 X pins H b)->tn i s.heap->J.go i H →
  wpAny (model P w) X.A (pyNext (.ref it)) (λ r s1=>∃ u,r=some u ∧
   wpAny (model P w) X.A (letOwnedTupleGo tg (.ref it) u) (λ _ s2=>∃ x H',Inv X pins σ H' s2/\RelV x u/\J.yld i H x H'/\tn (i+1) s2.heap/\∀ b∈fp,H' b=none) E s1) E s
 done:∀ (X:Cx),X.prog=P->X.w=w->X.K=K->X.calm=true->∀ (i:Nat) (pins:List (Addr × Obj)) (s:Shared) (σ:St) (H:Hp) (E:Value->Shared->Prop),Inv X pins σ H s->(∀ b∈fp,Ab1 X pins H b)->tn i s.heap->J.stop i H →
  wpAny (model P w) X.A (pyNext (.ref it)) (λ r s1=>r=none/\Inv X pins σ H s1) E s
 self:∀ (A:Around) (i:Nat) (s:Shared) (Q:Value->Shared->Prop) (E:Value->Shared->Prop),tn i s.heap->Q (.ref it) s->wpAny (model P w) A (pyIter (.ref it)) Q E s
abbrev TI:=St->Hp->(It->Hp->Prop)->Prop
def PIE (X:Cx) (pins:List (Addr × Obj)) (σ:St) (tg:Expr) (R:It->Hp->Prop) (itv:Value) (s2:Shared):Prop :=
 ∃ (it:Addr) (fp:List Addr) (tn:Nat->Heap->Prop) (J:It) (H':Hp),itv=.ref it/\Inv X pins σ H' s2/\Turn X.prog X.w X.K tg J fp it tn/\tn 0 s2.heap/\(∀ b∈fp,Ab1 X pins H' b)/\R J H'
def PI (X:Cx) (tg iter:Expr) (wi:TI):Prop :=
 ∀ (pins:List (Addr × Obj)) (s:Shared) (σ:St) (H:Hp) (R:It->Hp->Prop),Inv X pins σ H s->wi σ H R →
  wpAny (model X.prog X.w) X.A (eval iter X.env) (λ v s1=>wpAny (model X.prog X.w) X.A (pyIter v) (PIE X pins σ tg R) X.xe s1) X.xe s
theorem Ahc {M:Model}{A:Around}{E:Value->Shared->Prop}{s:Shared}{tg:Expr}{it:Addr}{u:Value}{o:Obj}{n:String}{vs:Array Value}{Q:Unit->Shared->Prop}(ho:s.heap.get? it=some o) (hc:o.cls=.type n) (hd:o.data=.fields vs)
    (hn:["enumerate","zip","dict_itemiterator","dict_reverseitemiterator","odict_iterator","itertools.zip_longest","itertools.pairwise"].contains n=false) (hQ:Q () s):wpAny M A (letOwnedTupleGo tg (.ref it) u) Q E s:=by
  unfold letOwnedTupleGo
  cases tg<;>first
    | exact wpAny_pure hQ
    | (cases u<;>first
        | exact wpAny_pure hQ
        | (refine wpAny_bind (wpAny_load ho ?_)
           rw [hc,hd]
           show wpAny M A (if (["enumerate","zip","dict_itemiterator","dict_reverseitemiterator","odict_iterator","itertools.zip_longest","itertools.pairwise"].contains n && vs[0]? == some (rawInt _))=true then _ else _) Q E s
           rw [if_neg (by intro h;rw [hn,Bool.false_and] at h;cases h)]
           exact wpAny_pure hQ))
noncomputable def Itl (K:PySem.W.Frag) (a:Addr):It :=
 ⟨λ i H=>∃ xs x,SqL K H a xs/\xs[i]?=some x,λ i H x H'=>H'=H/\∀ xs,SqL K H a xs->xs[i]?=some x,λ i H=>∃ xs,SqL K H a xs/\xs.length<=i⟩
noncomputable def Itr (lo:Int) (n:Nat):It:=⟨λ i _=>i<n,λ i H x H'=>H'=H/\x=.int (lo+i),λ i _=>n<=i⟩
theorem Ac4 {P:Program}{w:World}{K:PySem.W.Frag}{tg:Expr}(a it:Addr):Turn P w K tg (Itl K a) [it] it (λ i h=>h.IsListIter it a i) where
 mem:=by simp
 obj:=λ i h st b hb=>by
  have e:b=it:=by simpa using hb
  subst e
  obtain⟨o,e,c,d⟩:=st
  exact⟨o,e,λ v z=>by rw [d] at z;cases z⟩
 keep:=λ i h h' st k=>st.at λ o e=>k it (by simp) o e
 item:=by
  intro X hP hw hK hc i pins s σ H E I hf st hg
  subst hP hw hK
  obtain⟨xs,x,hq,hx⟩:=hg
  obtain⟨its,rv,p,hz⟩:=I.list hq
  obtain⟨u,hu,ru⟩:=rv.get hx
  obtain⟨f0,f1,f2,f3,f4,f5⟩:=hf it (by simp)
  refine wpAny_pyNext_list_item st p.isList (x:=u) (by simpa using hu) λ h' st' sb=>?_
  have I1:Inv X pins σ H { s with heap:=h' }:=I.turned (t':=s.toks) (λ b o hb e=>(sb.2 b hb).trans e) f0 f1 f3 f4 f5
  obtain⟨o,e,c,d⟩:=id st'
  exact⟨u,rfl,Ahc (s:={ s with heap:=h' }) e c d (by decide) ⟨x,H,I1,ru,⟨rfl,λ ys hy=>by rw [I.list_inj hy hq];exact hx⟩,st',λ b hb=>(hf b hb).1⟩⟩
 done:=by
  intro X hP hw hK hc i pins s σ H E I hf st hg
  subst hP hw hK
  obtain⟨xs,hq,hx⟩:=hg
  obtain⟨its,rv,p,hz⟩:=I.list hq
  obtain⟨f0,f1,f2,f3,f4,f5⟩:=hf it (by simp)
  have hl:=rv.length
  exact wpAny_pyNext_list_end (I.ok.hd hc) st p.isList (by simp;omega) λ h' eb=>⟨rfl,I.turned (t':=s.toks) (λ b o hb e=>eb b o hb e) f0 f1 f3 f4 f5⟩
 self:=λ _ _ _ _ _ st h=>wpAny_pyIter_listiter st h
theorem Abo {P:Program}{w:World}{K:PySem.W.Frag}{tg:Expr}(it:Addr) (lo:Int) (n:Nat):Turn P w K tg (Itr lo n) [it] it (λ i h=>IsRangeIter h it (lo+(i:Nat) * 1) ((n:Int)-(i:Nat)) 1) where
 mem:=by simp
 obj:=λ i h st b hb=>by
  have e:b=it:=by simpa using hb
  subst e
  exact⟨_,st,λ v z=>by
   have z':Data.fields _=Data.cell v:=z
   cases z'⟩
 keep:=λ i h h' st k=>k it (by simp) _ st
 item:=by
  intro X hP hw hK hc i pins s σ H E I hf st hg
  subst hP hw hK
  obtain⟨f0,f1,f2,f3,f4,f5⟩:=hf it (by simp)
  have W:=Walks.range (prog:=X.prog) (w:=X.w) (I.ok.hd hc) it lo 1 n
  refine W.item i s _ _ hg st λ v h' tk hv st' kk=>?_
  obtain⟨t,rfl⟩:=hv
  have I1:Inv X pins σ H { s with heap:=h',toks:=tk }:=I.turned (λ b o hb e=>kk b o (by simpa using hb) e) f0 f1 f3 f4 f5
  refine⟨_,rfl,Ahc (s:={ s with heap:=h',toks:=tk }) (n:="range_iterator") st' rfl rfl (by decide) ⟨.int (lo+i),H,I1,⟨t,?_⟩,⟨rfl,rfl⟩,st',λ b hb=>(hf b hb).1⟩⟩
  rw [Int.mul_one]
 done:=by
  intro X hP hw hK hc i pins s σ H E I hf st hg
  subst hP hw hK
  obtain⟨f0,f1,f2,f3,f4,f5⟩:=hf it (by simp)
  exact wpAny_pyNext_range_end (I.ok.hd hc) st (by have:n<=i:=hg;omega) λ h' eb=>⟨rfl,I.turned (t':=s.toks) (λ b o hb e=>eb b o hb e) f0 f1 f3 f4 f5⟩
 self:=λ _ _ _ _ _ st h=>wpAny_pyIter_rangeiter st h
end L2
namespace L2
open PySem PySem.Spec PyProof.Rows
section
variable {X:Cx}{tg:Expr}
noncomputable def Aoh (K:PySem.W.Frag) (tl:TE):TI:=λ σ H R=>tl σ H λ x H1=>∃ a,x=.ref a/\(∃ xs,SqL K H1 a xs)/\R (Itl K a) H1
theorem Ae5 {l:Expr}{tl:TE}(hl:PE X l tl):PI X tg l (Aoh X.K tl):=by
 intro pins s σ H R I h
 refine thn (hl pins s σ H _ I h) ?_
 rintro v s1 ⟨x,H1,I1,r1,q1⟩
 obtain⟨a,e,⟨xs,hq⟩,q⟩:=q1
 subst e
 cases r1
 obtain⟨its,rv,p,hz⟩:=I1.list hq
 refine wpAny_pyIter_list p.isList ?_
 refine⟨s1.heap.objs.size,[s1.heap.objs.size],_,_,H1,rfl,I1.kept (t':=s1.toks) λ b o e=>Heap.get?_push_of_some _ e,Ac4 a _,⟨_,Heap.get?_push_size _ rfl,rfl,rfl⟩,λ b hb=>?_,q⟩
 have e:b=s1.heap.objs.size:=by simpa using hb
 subst e
 exact I1.fpOk (Nat.le_refl _) (I1.hok.fresh (Nat.le_refl _))
theorem Z4 {pins:List (Addr × Obj)}{σ:St}{H:Hp}{s:Shared}{R:It->Hp->Prop}{E:Value->Shared->Prop}{lo hi:Int}{t u v:Tok}{tk:Nat}(I:Inv X pins σ H s) (h1:-(2 ^ 62)<=lo) (h2:lo<2 ^ 62) (h3:-(2 ^ 62)<=hi) (h4:hi<2 ^ 62)
  (q:R (Itr lo (hi-lo).toNat) H):wpAny (model X.prog X.w) X.A (pyIter (.ref s.heap.objs.size)) (PIE X pins σ tg R) E { s with heap:=s.heap.push { cls:=.type "range",data:=.fields #[.int lo t,.int hi u,.int 1 v] },toks:=tk }:=by
 refine wpAny_pyIter_range (IsRange.new ..) (small_one h1 h2 h3 h4) ?_
 have I1:Inv X pins σ H { s with heap:=s.heap.push { cls:=.type "range",data:=.fields #[.int lo t,.int hi u,.int 1 v] },toks:=tk }:=I.kept λ b o e=>Heap.get?_push_of_some _ e
 refine⟨(s.heap.push { cls:=.type "range",data:=.fields #[.int lo t,.int hi u,.int 1 v] }).objs.size,[(s.heap.push { cls:=.type "range",data:=.fields #[.int lo t,.int hi u,.int 1 v] }).objs.size],_,_,H,rfl,
  I1.kept (t':=tk) λ b o e=>Heap.get?_push_of_some _ e,Abo _ lo (hi-lo).toNat,?_,λ b hb=>?_,q⟩
 ·have e1:lo+((0:Nat):Int) * 1=lo:=by simp
  have e2:(((hi-lo).toNat:Nat):Int)-((0:Nat):Int)=Builtin.Range.rangeSize lo hi 1:=by rw [rangeSize_one];split<;>omega
  show IsRangeIter _ _ (lo+((0:Nat):Int) * 1) ((((hi-lo).toNat:Nat):Int)-((0:Nat):Int)) 1
  rw [e1,e2]
  exact Heap.get?_push_size _ rfl
 ·have e:b=(s.heap.push { cls:=.type "range",data:=.fields #[.int lo t,.int hi u,.int 1 v] }).objs.size:=by simpa using hb
  subst e
  exact I1.fpOk (Nat.le_refl _) (I1.hok.fresh (Nat.le_refl _))
noncomputable def Asj (ta:TA):TI:=λ σ H R=>ta σ H λ vs H1=>∃ j:Int,vs=[.int j]/\-(2 ^ 62)<=j/\j<2 ^ 62/\R (Itr 0 j.toNat) H1
noncomputable def As6 (ta:TA):TI:=λ σ H R=>ta σ H λ vs H1=>∃ i j:Int,vs=[.int i,.int j]/\(-(2 ^ 62)<=i/\i<2 ^ 62/\-(2 ^ 62)<=j/\j<2 ^ 62)/\R (Itr i (j-i).toNat) H1
theorem Ac0 {a:Expr}{ta:TA}{p pos:Pos}(hg:Gl X "range") (hm:X.mg "range"=none) (ha:PA X [a] ta) (hs:starEach [a] X.env=[(false,eval a X.env)]:=by rfl):PI X tg (.Call (.Name "range" p) [a] [] pos) (Asj ta):=by
 intro pins s σ H R I h
 refine Call_ (Qf I hg hm boot_range (PyProof.Rows.callWith_type1 (thn (ha pos pins s σ H _ I h) ?_) hs rfl))
 rintro us s1 ⟨vs,H1,I1,r1,q1⟩
 obtain⟨j,e,q1,q2,q⟩:=q1
 subst e
 cases r1 with
 | cons r rr =>
  cases rr
  obtain⟨t,rfl⟩:=r
  exact call_range_1 (Z4 I1 (by omega) (by omega) q1 q2 (by simpa using q))
theorem Aef {a b:Expr}{ta:TA}{p pos:Pos}(hg:Gl X "range") (hm:X.mg "range"=none) (ha:PA X [a,b] ta) (hs:starEach [a,b] X.env=[(false,eval a X.env),(false,eval b X.env)]:=by rfl) (hs2:starEach [b] X.env=[(false,eval b X.env)]:=by rfl) :
  PI X tg (.Call (.Name "range" p) [a,b] [] pos) (As6 ta):=by
 intro pins s σ H R I h
 refine Call_ (Qf I hg hm boot_range (PyProof.Rows.callWith_type1 (thn (ha pos pins s σ H _ I h) λ us s1 ⟨vs,H1,I1,r1,q1⟩=>?_) (by rw [hs,hs2]) (by rw [hs2];rfl)))
 obtain⟨i,j,e,⟨q1,q2,q3,q4⟩,q⟩:=q1
 subst e
 cases r1 with
 | cons r rr =>
  cases rr with
  | cons r' rr =>
   cases rr
   obtain⟨t,rfl⟩:=r
   obtain⟨t',rfl⟩:=r'
   exact call_range_2 (Z4 I1 q1 q2 q3 q4 q)
noncomputable def Asa (wi:TI) (g:TG) (tb:TS):TS:=λ D σ H=>wi σ H λ J H1=>∃ W:Nat->Nat->St->Hp->Prop,(∃ m,W 0 m σ H1)/\∀ i m σ H,W i m σ H →
 (J.stop i H/\D.nx σ H)\/(J.go i H/\∃ N:St->Hp->Prop,(∀ σ' H',N σ' H'->∃ m',m'<m/\W (i+1) m' σ' H')/\∀ x H',J.yld i H x H'->g x σ H' λ σ2 H2=>tb { D with nx:=N,ct:=N,bk:=D.nx } σ2 H2)
noncomputable def Wz (fp:List Addr) (h:Heap):List (Addr × Obj):=fp.filterMap λ b=>(h.get? b).map λ o=>(b,o)
theorem Kc {fp:List Addr}{h:Heap}{b:Addr}{o:Obj}(hb:b∈fp) (e:h.get? b=some o):(b,o)∈Wz fp h:=List.mem_filterMap.mpr ⟨b,hb,by rw [e];rfl⟩
theorem Aes {fp:List Addr}{h:Heap}{p:Addr × Obj}(hp:p∈Wz fp h):p.1∈fp/\h.get? p.1=some p.2:=by
 obtain⟨b,hb,e⟩:=List.mem_filterMap.mp hp
 cases q:h.get? b with
 | none=>rw [q] at e;cases e
 | some o =>
  rw [q] at e
  have e':(b,o)=p:=Option.some.inj e
  subst e'
  exact⟨hb,q⟩
theorem Inv.pinned {pins:List (Addr × Obj)}{σ:St}{H:Hp}{s:Shared}{fp:List Addr}(I:Inv X pins σ H s) (hf:∀ b∈fp,Ab1 X pins H b) (ho:∀ b∈fp,∃ o,s.heap.get? b=some o/\∀ v,o.data≠.cell v):Inv X (pins++Wz fp s.heap) σ H s :=
 I.pins_of λ p hp=>(List.mem_append.mp hp).elim (λ z=>I.pin p (List.mem_append_right _ z)) λ z=>by
  obtain⟨hb,e⟩:=Aes z
  obtain⟨f0,f1,f2,_⟩:=hf p.1 hb
  obtain⟨o,e',d⟩:=ho p.1 hb
  rw [e] at e';cases e'
  exact⟨e,f0,f1,f2,d⟩
theorem Inv.unpinned {pins pl:List (Addr × Obj)}{σ:St}{H:Hp}{s:Shared}(I:Inv X (pins++pl) σ H s):Inv X pins σ H s:=I.pins_of λ p hp=>I.pin p (List.mem_append_right _ (List.mem_append_left _ hp))
theorem Adz {iter:Expr}{body:List Stmt}{wi:TI}{g:TG}{tb:TS}{pos:Pos}(hp:PassesOwn (model X.prog X.w) X.A X.env X.xe) (hc:X.calm=true) (hi:PI X tg iter wi) (hg:PG X tg g) (hb:PSs X body tb)
  (hs:∀ x,foldedSetIterable iter X.env x=pure x:=by intro _;rfl):PS X (.For tg iter body [] pos) (Asa wi g tb):=by
 intro pins s σ H D I h
 refine wpAny_For (thn (hi pins s σ H _ I h) λ v s1 h1=>thn h1 λ itv s2 h2=>?_) hs
 obtain⟨it,fp,tn,J,H2,e,I2,T,st2,f2,W,⟨m0,w0⟩,turn⟩:=h2
 subst e
 -- what stays true of the iterator's objects through the loop
 have stat:∀ {H':Hp},(∀ b∈fp,H' b=none)->∀ b∈fp,Ab1 X pins H' b:=λ hn b hb=>⟨hn b hb,(f2 b hb).2⟩
 refine codeAny_forLoop_any (λ n s'=>∃ i σ' H',Inv X pins σ' H' s'/\tn i s'.heap/\(∀ b∈fp,H' b=none)/\W i n σ' H') ?_ m0 ⟨0,σ,H2,I2,st2,λ b hb=>(f2 b hb).1,w0⟩
 rintro n s3 ⟨i,σ3,H3,I3,st3,fr3,w3⟩
 rcases turn i n σ3 H3 w3 with ⟨stop,qn⟩|⟨go,N,hN,step⟩
 ·refine wpAny_passesOwn hp (thn (T.done X rfl rfl rfl hc i pins s3 σ3 H3 X.xe I3 (stat fr3) st3 stop) ?_)
  rintro r s4 ⟨hr,I4⟩
  subst hr
  exact wpAny_execs_nil ⟨σ3,H3,I4,qn⟩
 ·refine wpAny_passesOwn hp (thn (T.item X rfl rfl rfl hc i pins s3 σ3 H3 X.xe I3 (stat fr3) st3 go) ?_)
  rintro r s4 ⟨u,hr,h4⟩
  subst hr
  refine wpAny_passesOwn hp (thn h4 ?_)
  rintro _ s5 ⟨x,H5,I5,r5,y5,st5,fr5⟩
  have I5':=I5.pinned (stat fr5) (T.obj _ _ st5)
  refine wpAny_passesOwn hp (thn (hg _ s5 σ3 H5 x u _ I5' r5 (step x H5 y5)) ?_)
  rintro _ s6 ⟨σ6,H6,I6,q6⟩
  refine wpAny_passesOwn hp (thn (hb _ s6 σ6 H6 _ I6 q6) λ f s7 q7=>?_)
  have again:∀ {σ7:St} {H7:Hp},Inv X (pins++Wz fp s5.heap) σ7 H7 s7->N σ7 H7->∃ m,m<n/\∃ i σ' H',Inv X pins σ' H' s7/\tn i s7.heap/\(∀ b∈fp,H' b=none)/\W i m σ' H':=λ {σ7 H7} I7 n7=>by
   obtain⟨m',hm,w7⟩:=hN σ7 H7 n7
   refine⟨m',hm,i+1,σ7,H7,I7.unpinned,T.keep _ _ _ st5 λ b hb o e=>(I7.pin (b,o) (List.mem_append_right _ (List.mem_append_right _ (Kc hb e)))).1,λ b hb=>?_,w7⟩
   obtain⟨o,e,d⟩:=T.obj _ _ st5 b hb
   exact (I7.pin (b,o) (List.mem_append_right _ (List.mem_append_right _ (Kc hb e)))).2.1
  cases f with
  | next=>obtain⟨σ7,H7,I7,n7⟩:=q7;exact again I7 n7
  | cont=>obtain⟨σ7,H7,I7,n7⟩:=q7;exact again I7 n7
  | brk=>obtain⟨σ7,H7,I7,q7⟩:=q7;exact⟨σ7,H7,I7.unpinned,q7⟩
  | ret v=>obtain⟨x7,σ7,H7,I7,r7,q7⟩:=q7;exact⟨x7,σ7,H7,I7.unpinned,r7,q7⟩
end
theorem Ah2 {K:PySem.W.Frag}{a:Addr}{xs:List V}{g:TG}{tb:TS}{D:Ends}{σ:St}{H:Hp}(Pv:Nat->St->Hp->Prop) (h0:Pv 0 σ H) (hl:∀ i σ H,i<=xs.length->Pv i σ H->SqL K H a xs)
  (hs:∀ i x σ H,xs[i]?=some x->Pv i σ H->g x σ H λ σ2 H2=>tb { D with nx:=Pv (i+1),ct:=Pv (i+1),bk:=D.nx } σ2 H2) (hd:∀ σ H,Pv xs.length σ H->D.nx σ H) :
  ∃ W:Nat->Nat->St->Hp->Prop,(∃ m,W 0 m σ H)/\∀ i m σ H,W i m σ H →
   ((Itl K a).stop i H/\D.nx σ H)\/((Itl K a).go i H/\∃ N:St->Hp->Prop,(∀ σ' H',N σ' H'->∃ m',m'<m/\W (i+1) m' σ' H')/\∀ x H',(Itl K a).yld i H x H'->g x σ H' λ σ2 H2=>tb { D with nx:=N,ct:=N,bk:=D.nx } σ2 H2):=by
 refine⟨λ i m σ H=>m=xs.length-i/\i<=xs.length/\Pv i σ H,⟨xs.length,by simp,Nat.zero_le _,h0⟩,?_⟩
 rintro i m σ H ⟨rfl,hi,p⟩
 have q:=hl i σ H hi p
 by_cases hlt:i<xs.length
 ·refine .inr ⟨⟨xs,xs[i],q,by simp [hlt]⟩,Pv (i+1),λ σ' H' p'=>⟨xs.length-(i+1),by omega,rfl,hlt,p'⟩,λ x H' y=>?_⟩
  obtain⟨e,y⟩:=y
  subst e
  exact hs i x σ _ (y xs q) p
 ·have e:i=xs.length:=by omega
  subst e
  exact .inl ⟨⟨xs,q,Nat.le_refl _⟩,hd σ H p⟩
end L2
namespace L2
open PySem PySem.Spec PyProof.Rows
abbrev R2:=V->V->Hp->VK->Prop
def OpR (X:Cx) (f:Value->Value->Sem Value) (r:R2):Prop :=
 ∀ (pins:List (Addr × Obj)) (s:Shared) (σ:St) (H:Hp) (x y:V) (v u:Value) (Q:VK),Inv X pins σ H s->RelV x v->RelV y u->r x y H Q →
  wpAny (model X.prog X.w) X.A (f v u) (EP X pins σ Q) X.xe s
def UnR (X:Cx) (f:Value->Sem Value) (r:V->Hp->VK->Prop):Prop :=
 ∀ (pins:List (Addr × Obj)) (s:Shared) (σ:St) (H:Hp) (x:V) (v:Value) (Q:VK),Inv X pins σ H s->RelV x v->r x H Q →
  wpAny (model X.prog X.w) X.A (f v) (EP X pins σ Q) X.xe s
def Fy (X:Cx) (f:Value) (r:List V->Hp->VK->Prop):Prop :=
 ∀ (pins:List (Addr × Obj)) (s:Shared) (σ:St) (H:Hp) (xs:List V) (us:List Value) (Q:VK),Inv X pins σ H s->Vals xs us->r xs H Q →
  wpAny (model X.prog X.w) X.A (call f us) (EP X pins σ Q) X.xe s
def Ax1 (X:Cx) (r:V->Hp->(Bool->Hp->Prop)->Prop):Prop :=
 ∀ (pins:List (Addr × Obj)) (s:Shared) (σ:St) (H:Hp) (x:V) (v:Value) (Q:Bool->Hp->Prop),Inv X pins σ H s->RelV x v->r x H Q →
  wpAny (model X.prog X.w) X.A (truthy v) (TP X pins σ Q) X.xe s
noncomputable def tOp (r:R2) (ta tb:TE):TE:=λ σ H Q=>ta σ H λ x H1=>tb σ H1 λ y H2=>r x y H2 Q
noncomputable def tUn (r:V->Hp->VK->Prop) (ta:TE):TE:=λ σ H Q=>ta σ H λ x H1=>r x H1 Q
noncomputable def rI (C:Int->Int->Prop) (g:Int->Int->V):R2:=λ x y H Q=>∃ i j,x=.int i/\y=.int j/\C i j/\Q (g i j) H
noncomputable def rI0 (g:Int->Int->V):R2:=λ x y H Q=>∃ i j,x=.int i/\y=.int j/\Q (g i j) H
def rU (g:Int->V):V->Hp->VK->Prop:=λ x H Q=>∃ i,x=.int i/\Q (g i) H
section
variable {X:Cx}{a b c:Expr}{ta tb tc:TE}{pos:Pos}
theorem Atj (ha:PE X a ta) (hb:PE X b tb) {pins:List (Addr × Obj)}{s:Shared}{σ:St}{H:Hp}{R:V->V->Hp->Prop}(I:Inv X pins σ H s)
  (h:ta σ H λ x H1=>tb σ H1 λ y H2=>R x y H2) {Q:Value->Shared->Prop} {f:Value->Value->Sem Value}
  (hf:∀ v u s2 x y H2,Inv X pins σ H2 s2->RelV x v->RelV y u->R x y H2->wpAny (model X.prog X.w) X.A (f v u) Q X.xe s2) :
  wpAny (model X.prog X.w) X.A (eval a X.env) (λ v s₁=>wpAny (model X.prog X.w) X.A (eval b X.env) (λ u s₂=>wpAny (model X.prog X.w) X.A (f v u) Q X.xe s₂) X.xe s₁) X.xe s:=by
 refine thn (ha pins s σ H _ I h) ?_
 rintro v s1 ⟨x,H1,I1,r1,q1⟩
 refine thn (hb pins s1 σ H1 _ I1 q1) ?_
 rintro u s2 ⟨y,H2,I2,r2,q2⟩
 exact hf v u s2 x y H2 I2 r1 r2 q2
theorem Jk {op:Operator}{r:R2}(ho:OpR X (binaryOp op) r) (ha:PE X a ta) (hb:PE X b tb):PE X (.BinOp a op b pos) (tOp r ta tb):=by
 intro pins s σ H Q I h
 exact wpAny_BinOp (Atj ha hb I h λ v u s2 x y H2 I2 rx ry q=>ho pins s2 σ H2 x y v u Q I2 rx ry q)
theorem Amv {op:UnaryOp}{r:V->Hp->VK->Prop}(ho:UnR X (unaryOp op) r) (ha:PE X a ta):PE X (.UnaryOp op a pos) (tUn r ta):=by
 intro pins s σ H Q I h
 exact UnaryOp_ (thn (ha pins s σ H _ I h) λ v s1 ⟨x,H1,I1,r1,q1⟩=>ho pins s1 σ H1 x v Q I1 r1 q1)
theorem opI {f:Value->Value->Sem Value}{C:Int->Int->Prop}{g:Int->Int->Int}
  (rule:∀ (i j:Int) (t u:Tok) (s:Shared) (Q:Value->Shared->Prop) (E:Value->Shared->Prop),C i j->Q (.int (g i j) s.toks) { s with toks:=s.toks+1 }->wpAny (model X.prog X.w) X.A (f (.int i t) (.int j u)) Q E s) :
  OpR X f (rI C λ i j=>.int (g i j)):=by
 intro pins s σ H x y v u Q I rx ry h
 obtain⟨i,j,rfl,rfl,hc,q⟩:=h
 obtain⟨t,rfl⟩:=rx
 obtain⟨t',rfl⟩:=ry
 exact rule i j t t' s _ _ hc ⟨.int (g i j),H,I.tok _,⟨_,rfl⟩,q⟩
theorem At4 {f:Value->Value->Sem Value}{g:Int->Int->Int}
  (rule:∀ (i j:Int) (t u:Tok) (s:Shared) (Q:Value->Shared->Prop) (E:Value->Shared->Prop),Q (.int (g i j) s.toks) { s with toks:=s.toks+1 }->wpAny (model X.prog X.w) X.A (f (.int i t) (.int j u)) Q E s) :
  OpR X f (rI0 λ i j=>.int (g i j)):=by
 intro pins s σ H x y v u Q I rx ry h
 obtain⟨i,j,rfl,rfl,q⟩:=h
 obtain⟨t,rfl⟩:=rx
 obtain⟨t',rfl⟩:=ry
 exact rule i j t t' s _ _ ⟨.int (g i j),H,I.tok _,⟨_,rfl⟩,q⟩
theorem Arh {f:Value->Value->Sem Value}{g:Int->Int->Bool}
  (rule:∀ (i j:Int) (t u:Tok) (s:Shared) (Q:Value->Shared->Prop) (E:Value->Shared->Prop),Q (.bool (g i j)) s->wpAny (model X.prog X.w) X.A (f (.int i t) (.int j u)) Q E s) :
  OpR X f (rI0 λ i j=>.bl (g i j)):=by
 intro pins s σ H x y v u Q I rx ry h
 obtain⟨i,j,rfl,rfl,q⟩:=h
 obtain⟨t,rfl⟩:=rx
 obtain⟨t',rfl⟩:=ry
 exact rule i j t t' s _ _ ⟨.bl (g i j),H,I,rfl,q⟩
def Arl (i j:Int):Prop:=0<j/\j<1073741824
def Ar9 (i j:Int):Prop:=0<=j/\j<=1000000/\i.natAbs<2 ^ 64
def Am9 (i j:Int):Prop:=(-(2 ^ 64)<i/\i<2 ^ 64)\/(-(2 ^ 64)<j/\j<2 ^ 64)
theorem Am9.ok {i j:Int}(h:Am9 i j):IntMulOk i j:=by
 rcases h with ⟨h1,h2⟩|⟨h1,h2⟩
 ·exact .of_left (intBits_le_64 h1 h2)
 ·exact .of_right (intBits_le_64 h1 h2)
theorem Qp:OpR X (binaryOp .Add) (rI0 λ i j=>.int (i+j)):=At4 λ _ _ _ _ _ _ _ q=>add_int q
theorem W9:OpR X (binaryOp .Sub) (rI0 λ i j=>.int (i-j)):=At4 λ _ _ _ _ _ _ _ q=>sub_int q
theorem Aiv:OpR X (binaryOp .Mult) (rI Am9 λ i j=>.int (i * j)):=opI λ _ _ _ _ _ _ _ hc q=>mul_int q hc.ok
theorem Al6:OpR X (binaryOp .FloorDiv) (rI Arl λ i j=>.int (i / j)):=opI λ i j _ _ _ _ _ hc q=>by
 have h1:(0:Int)<j:=hc.1
 have h2:j<1073741824:=hc.2
 exact floordiv_int (by omega) (by rw [Int.fdiv_eq_ediv_of_nonneg i (by omega)];exact q) (.inl (PyProof.noPylong_small (by omega)))
theorem Aok:OpR X (binaryOp .Mod) (rI (λ _ j=>0<j) λ i j=>.int (i % j)):=opI λ i j _ _ _ _ _ hc q=>by
 have h1:(0:Int)<j:=hc
 exact mod_int' (by omega) (by rw [Int.fmod_eq_emod_of_nonneg i (by omega)];exact q)
theorem Aqm:OpR X (binaryOp .Pow) (rI Ar9 λ i j=>.int (i ^ j.toNat)):=opI λ _ _ _ _ _ _ _ hc q=>pow_int_small hc.1 hc.2.1 hc.2.2 q
theorem Apk:OpR X (binaryOp .LShift) (rI Ar9 λ i j=>.int (i * 2 ^ j.toNat)):=opI λ _ _ _ _ _ _ _ hc q=>lshift_int_small hc.1 hc.2.1 hc.2.2 q
theorem Adx:OpR X (binaryOp .BitAnd) (rI0 λ i j=>.int (Builtin.bitAnd i j)):=At4 λ _ _ _ _ _ _ _ q=>and_int q
theorem unI {f:Value->Sem Value}{g:Int->Int}
  (rule:∀ (i:Int) (t:Tok) (s:Shared) (Q:Value->Shared->Prop) (E:Value->Shared->Prop),Q (.int (g i) s.toks) { s with toks:=s.toks+1 }->wpAny (model X.prog X.w) X.A (f (.int i t)) Q E s) :
  UnR X f (rU λ i=>.int (g i)):=by
 intro pins s σ H x v Q I rx h
 obtain⟨i,rfl,q⟩:=h
 obtain⟨t,rfl⟩:=rx
 exact rule i t s _ _ ⟨.int (g i),H,I.tok _,⟨_,rfl⟩,q⟩
theorem Ad3:UnR X (unaryOp .USub) (rU λ i=>.int (-i)):=unI λ _ _ _ _ _ q=>neg_int q
end
noncomputable def Auu:V->V->Bool
 | .non,.non=>true|.non,.int _=>true|.int _,.non=>true|.non,.bl _=>true|.bl _,.non=>true|.non,.str _=>true|.str _,.non=>true
 | .int _,.int _=>true|.bl _,.bl _=>true|.str _,.str _=>true|.byt _,.byt _=>true
 | .int _,.str _=>true|.str _,.int _=>true|.bl _,.str _=>true|.str _,.bl _=>true
 | _,_=>false
noncomputable def rEq:R2:=λ x y H Q=>Auu x y=true/\Q (.bl (decide (x=y))) H
noncomputable def rNe:R2:=λ x y H Q=>Auu x y=true/\Q (.bl (!decide (x=y))) H
theorem Ac5 {i j:Int}:decide (V.int i=V.int j)=(i == j):=by
 rw [Bool.eq_iff_iff]
 simp
theorem Ait {i j:Bool}:decide (V.bl i=V.bl j)=(i == j):=by
 rw [Bool.eq_iff_iff]
 simp
theorem Afa {i j:Str}:decide (V.str i=V.str j)=(i == j):=by
 rw [Bool.eq_iff_iff]
 simp
theorem Afv {i j:Array UInt8}:decide (V.byt i=V.byt j)=(i.toList == j.toList):=by
 rw [Bool.eq_iff_iff]
 cases i
 cases j
 simp
section
variable {X:Cx}{a b c:Expr}{ta tb tc:TE}{pos:Pos}
theorem Bp {pins:List (Addr × Obj)}{σ:St}{H:Hp}{s:Shared}{Q:VK}{k k':Bool}(I:Inv X pins σ H s) (q:Q (.bl k) H) (e:k=k'):EP X pins σ Q (.bool k') s:=by
 subst e
 exact⟨.bl k,H,I,rfl,q⟩
theorem Ail:OpR X (compareOp .Eq) rEq:=by
 intro pins s σ H x y v u Q I rx ry h
 obtain⟨hs,q⟩:=h
 cases x with
 | non =>
  cases rx
  cases y with
  | non=>cases ry;exact PySem.EqNone.eq_none_none (Bp I q (by simp))
  | bl j=>cases ry;exact PySem.EqNone.eq_none_bool (Bp I q (by simp))
  | int j=>obtain⟨t',rfl⟩:=ry;exact PySem.EqNone.eq_none_int (Bp I q (by simp))
  | str j=>obtain⟨t',rfl⟩:=ry;exact PySem.EqNone.eq_none_str (Bp I q (by simp))
  | _=>exact absurd (show false=true from hs) Bool.false_ne_true
 | bl i =>
  cases rx
  cases y with
  | non=>cases ry;exact PySem.EqNone.eq_bool_none (Bp I q (by simp))
  | bl j=>cases ry;exact eq_bool (Bp I q Ait)
  | str j=>obtain⟨t',rfl⟩:=ry;exact PySem.EqMixed.eq_bool_str (Bp I q (by simp))
  | _=>exact absurd (show false=true from hs) Bool.false_ne_true
 | int i =>
  obtain⟨t,rfl⟩:=rx
  cases y with
  | non=>cases ry;exact PySem.EqNone.eq_int_none (Bp I q (by simp))
  | int j=>obtain⟨t',rfl⟩:=ry;exact eq_int (Bp I q Ac5)
  | str j=>obtain⟨t',rfl⟩:=ry;exact PySem.EqMixed.eq_int_str (Bp I q (by simp))
  | _=>exact absurd (show false=true from hs) Bool.false_ne_true
 | str i =>
  obtain⟨t,rfl⟩:=rx
  cases y with
  | non=>cases ry;exact PySem.EqNone.eq_str_none (Bp I q (by simp))
  | bl j=>cases ry;exact PySem.EqMixed.eq_str_bool (Bp I q (by simp))
  | int j=>obtain⟨t',rfl⟩:=ry;exact PySem.EqMixed.eq_str_int (Bp I q (by simp))
  | str j=>obtain⟨t',rfl⟩:=ry;exact eq_str (Bp I q Afa)
  | _=>exact absurd (show false=true from hs) Bool.false_ne_true
 | byt i =>
  obtain⟨t,rfl⟩:=rx
  cases y with
  | byt j=>obtain⟨t',rfl⟩:=ry;exact PySem.W.eq_bytes (Bp I q Afv)
  | _=>exact absurd (show false=true from hs) Bool.false_ne_true
 | _=>cases y<;>exact absurd (show false=true from hs) Bool.false_ne_true
theorem Alq:OpR X (compareOp .NotEq) rNe:=by
 intro pins s σ H x y v u Q I rx ry h
 obtain⟨hs,q⟩:=h
 cases x with
 | non =>
  cases rx
  cases y with
  | non=>cases ry;exact PySem.EqNone.ne_none_none (Bp I q (by simp))
  | bl j=>cases ry;exact PySem.EqNone.ne_none_bool (Bp I q (by simp))
  | int j=>obtain⟨t',rfl⟩:=ry;exact PySem.EqNone.ne_none_int (Bp I q (by simp))
  | str j=>obtain⟨t',rfl⟩:=ry;exact PySem.EqNone.ne_none_str (Bp I q (by simp))
  | _=>exact absurd (show false=true from hs) Bool.false_ne_true
 | bl i =>
  cases rx
  cases y with
  | non=>cases ry;exact PySem.EqNone.ne_bool_none (Bp I q (by simp))
  | bl j=>cases ry;exact ne_bool (Bp I q (congrArg not Ait))
  | str j=>obtain⟨t',rfl⟩:=ry;exact PySem.EqMixed.ne_bool_str (Bp I q (by simp))
  | _=>exact absurd (show false=true from hs) Bool.false_ne_true
 | int i =>
  obtain⟨t,rfl⟩:=rx
  cases y with
  | non=>cases ry;exact PySem.EqNone.ne_int_none (Bp I q (by simp))
  | int j=>obtain⟨t',rfl⟩:=ry;exact ne_int (Bp I q (congrArg not Ac5))
  | str j=>obtain⟨t',rfl⟩:=ry;exact PySem.EqMixed.ne_int_str (Bp I q (by simp))
  | _=>exact absurd (show false=true from hs) Bool.false_ne_true
 | str i =>
  obtain⟨t,rfl⟩:=rx
  cases y with
  | non=>cases ry;exact PySem.EqNone.ne_str_none (Bp I q (by simp))
  | bl j=>cases ry;exact PySem.EqMixed.ne_str_bool (Bp I q (by simp))
  | int j=>obtain⟨t',rfl⟩:=ry;exact PySem.EqMixed.ne_str_int (Bp I q (by simp))
  | str j=>obtain⟨t',rfl⟩:=ry;exact ne_str (Bp I q (congrArg not Afa))
  | _=>exact absurd (show false=true from hs) Bool.false_ne_true
 | byt i =>
  obtain⟨t,rfl⟩:=rx
  cases y with
  | byt j=>obtain⟨t',rfl⟩:=ry;exact PySem.W.ne_bytes (Bp I q (congrArg not Afv))
  | _=>exact absurd (show false=true from hs) Bool.false_ne_true
 | _=>cases y<;>exact absurd (show false=true from hs) Bool.false_ne_true
theorem Aex:OpR X (compareOp .Lt) (rI0 λ i j=>.bl (decide (i<j))):=Arh λ _ _ _ _ _ _ _ q=>lt_int q
theorem Aq2:OpR X (compareOp .LtE) (rI0 λ i j=>.bl (decide (i<=j))):=Arh λ _ _ _ _ _ _ _ q=>le_int q
theorem Aqx:OpR X (compareOp .Gt) (rI0 λ i j=>.bl (decide (j<i))):=Arh λ _ _ _ _ _ _ _ q=>gt_int q
theorem Asf:OpR X (compareOp .GtE) (rI0 λ i j=>.bl (decide (j<=i))):=Arh λ _ _ _ _ _ _ _ q=>ge_int q
theorem OpR.or {f:Value->Value->Sem Value}{r r':R2}(h:OpR X f r) (h':OpR X f r'):OpR X f (λ x y H Q=>r x y H Q\/r' x y H Q):=by
 intro pins s σ H x y v u Q I rx ry q
 rcases q with q|q
 ·exact h pins s σ H x y v u Q I rx ry q
 ·exact h' pins s σ H x y v u Q I rx ry q
theorem Gm (b:Expr) {op:CmpOp}(h:op≠.In:=by decide) (h2:op≠.NotIn:=by decide):behindInMarks op b=false:=by
 have e1:(op == CmpOp.In)=false:=by cases op<;>first|rfl|exact absurd rfl h
 have e2:(op == CmpOp.NotIn)=false:=by cases op<;>first|rfl|exact absurd rfl h2
 cases b<;>simp [behindInMarks,e1,e2]
theorem Aj0 {op:CmpOp}{r:R2}(ho:OpR X (compareOp op) r) (ha:PE X a ta) (hb:PE X b tb) (hm:behindInMarks op b=false):PE X (.Compare a [op] [b] pos) (tOp r ta tb):=by
 intro pins s σ H Q I h
 exact wpAny_Compare1 (Atj ha hb I h λ v u s2 x y H2 I2 rx ry q=>ho pins s2 σ H2 x y v u Q I2 rx ry q) hm
noncomputable def Rh (t:TE):TT:=λ σ H Q=>t σ H λ x H'=>∃ k,x=.bl k/\Q k H'
theorem Iz {op:CmpOp}{r:R2}(ho:OpR X (compareOp op) r) (ha:PE X a ta) (hb:PE X b tb) (hm:behindInMarks op b=false):PT X (.Compare a [op] [b] pos) (Rh (tOp r ta tb)):=by
 intro pins s σ H Q I h
 refine wpAny_isTrue_Compare1 (thn (ha pins s σ H _ I h) λ v s1 ⟨x,H1,I1,r1,q1⟩=>thn (hb pins s1 σ H1 _ I1 q1) λ u s2 ⟨y,H2,I2,r2,q2⟩ =>
  thn (ho pins s2 σ H2 x y v u _ I2 r1 r2 q2) λ c s3 ⟨z,H3,I3,r3,k,e,q3⟩=>?_) hm
 subst e
 cases r3
 exact wpAny_truthy_bool ⟨H3,I3,q3⟩
noncomputable def Aac (r r':R2) (ta tb tc:TE):TE:=λ σ H Q=>ta σ H λ x H1=>tb σ H1 λ y H2=>r x y H2 λ z H3=>∃ k,z=.bl k ∧
 (if k=true then tc σ H3 λ w' H4=>r' y w' H4 Q else Q (.bl false) H3)
theorem Agm {op op':CmpOp}{r r':R2}(ho:OpR X (compareOp op) r) (ho':OpR X (compareOp op') r') (ha:PE X a ta) (hb:PE X b tb) (hc:PE X c tc)
  (hm:lastMarks [op,op'] [b,c]=false:=by with_unfolding_all rfl):PE X (.Compare a [op,op'] [b,c] pos) (Aac r r' ta tb tc):=by
 intro pins s σ H Q I h
 refine Compare_chain (thn (ha pins s σ H _ I h) λ v s1 ⟨x,H1,I1,r1,q1⟩=>chain_link (thn (hb pins s1 σ H1 _ I1 q1) λ u s2 ⟨y,H2,I2,r2,q2⟩ =>
  thn (ho pins s2 σ H2 x y v u _ I2 r1 r2 q2) λ d s3 ⟨z,H3,I3,r3,k,e,q3⟩=>?_)) hm
 subst e
 cases r3
 refine wpAny_truthy_bool ?_
 cases k with
 | false=>exact ite_ff ⟨.bl false,H3,I3,rfl,q3⟩
 | true=>exact ite_tt (chain_last (thn (hc pins s3 σ H3 _ I3 q3) λ w' s4 ⟨z',H4,I4,r4,q4⟩=>ho' pins s4 σ H4 y z' u w' Q I4 r2 r4 q4))
theorem Zn {op op':CmpOp}{r r':R2}(ho:OpR X (compareOp op) r) (ho':OpR X (compareOp op') r') (ha:PE X a ta) (hb:PE X b tb) (hc:PE X c tc)
  (hm:lastMarks [op,op'] [b,c]=false:=by with_unfolding_all rfl):PT X (.Compare a [op,op'] [b,c] pos) (Rh (Aac r r' ta tb tc)):=by
 intro pins s σ H Q I h
 refine isTrue_chain (thn (ha pins s σ H _ I h) λ v s1 ⟨x,H1,I1,r1,q1⟩=>test_link (thn (hb pins s1 σ H1 _ I1 q1) λ u s2 ⟨y,H2,I2,r2,q2⟩ =>
  thn (ho pins s2 σ H2 x y v u _ I2 r1 r2 q2) λ d s3 ⟨z,H3,I3,r3,k,e,q3⟩=>?_)) hm
 subst e
 cases r3
 refine wpAny_truthy_bool ?_
 cases k with
 | false =>
  obtain⟨k',e',q'⟩:=q3
  cases e'
  exact ite_ff ⟨H3,I3,q'⟩
 | true =>
  refine ite_tt (test_last (thn (hc pins s3 σ H3 _ I3 q3) λ w' s4 ⟨z',H4,I4,r4,q4⟩=>thn (ho' pins s4 σ H4 y z' u w' _ I4 r2 r4 q4) ?_))
  rintro d' s5 ⟨z2,H5,I5,r5,k2,e2,q5⟩
  subst e2
  cases r5
  exact wpAny_truthy_bool ⟨H5,I5,q5⟩
def Au6 (K:PySem.W.Frag) (x:V) (H:Hp) (k:Bool):Prop :=
 match x with
 | .non=>k=false
 | .bl b=>k=b
 | .int i=>k=(i != 0)
 | .str y=>y.length<=sizeLine/\k=((y.length:Int) != 0)
 | .byt y=>y.size<=sizeLine/\k=((y.size:Int) != 0)
 | .ref p=>(∃ xs,SqL K H p xs/\k=!xs.isEmpty)\/(∃ xs,SqT K H p xs/\k=!xs.isEmpty)\/∃ kvs,H p=some (.dK kvs)/\k=!kvs.isEmpty
 | _=>False
theorem Abg {κ:Type}{kvs:List (κ × V)}{vs:List (κ × Value)}(r:KV kvs vs):(!vs.isEmpty)=!kvs.isEmpty:=by
 cases r<;>rfl
theorem R0 {xs:List V}{its:List Value}(r:Vals xs its):(!its.toArray.isEmpty)=!xs.isEmpty:=by
 cases r<;>simp
theorem Qt:(sizeLine:Nat)<2 ^ 63:=by rw [sizeLine_eq];decide
theorem Apf:Ax1 X (λ x H Q=>∃ k,Au6 X.K x H k/\Q k H):=by
 intro pins s σ H x v Q I rx h
 obtain⟨k,e,q⟩:=h
 have hl:=Qt
 have hs:sizeLine=16777216:=sizeLine_eq
 cases x with
 | non =>
  cases rx
  have e':k=false:=e
  subst e'
  exact truthy_none ⟨H,I,q⟩
 | bl b =>
  cases rx
  have e':k=b:=e
  subst e'
  exact wpAny_truthy_bool ⟨H,I,q⟩
 | int i =>
  obtain⟨t,rfl⟩:=rx
  have e':k=(i != 0):=e
  subst e'
  exact PySem.P.truthy_int ⟨H,I,q⟩
 | str y =>
  obtain⟨t,rfl⟩:=rx
  obtain⟨hy,e'⟩:y.length<=sizeLine/\k=((y.length:Int) != 0):=e
  subst e'
  exact PySem.P.truthy_str (by omega) ⟨H,I.tok _,q⟩
 | byt y =>
  obtain⟨t,rfl⟩:=rx
  obtain⟨hy,e'⟩:y.size<=sizeLine/\k=((y.size:Int) != 0):=e
  subst e'
  exact PySem.W.truthy_bytes (by omega) ⟨H,I.tok _,q⟩
 | ref p =>
  cases rx
  have e':(∃ xs,SqL X.K H p xs/\k=!xs.isEmpty)\/(∃ xs,SqT X.K H p xs/\k=!xs.isEmpty)\/∃ kvs,H p=some (.dK kvs)/\k=!kvs.isEmpty:=e
  rcases e' with ⟨xs,hx,e'⟩|⟨xs,hx,e'⟩|⟨kvs,hx,e'⟩
  ·subst e'
   obtain⟨its,r,pl,hz⟩:=I.list hx
   have hlen:=r.length
   exact wpAny_truthy_list pl.isList (by simp only [List.size_toArray];omega) ⟨H,I.tok _,by rw [R0 r];exact q⟩
  ·subst e'
   obtain⟨its,r,pl,hz⟩:=I.tuple hx
   have hlen:=r.length
   exact truthy_tuple pl (by simp only [List.size_toArray];omega) ⟨H,I.tok _,by rw [R0 r];exact q⟩
  ·subst e'
   obtain⟨hz,hS,vs,r,m⟩:kvs.length<=sizeLine/\(p == sysModules)=false/\∃ vs,KV kvs vs/\s.heap.DictOf (Cr X.prog X.w) p vs:=I.hok p _ hx
   have hlen:kvs.length=vs.length:=Paired.length r
   exact wpAny_truthy_dict hS m (by omega) ⟨H,I.tok _,by rw [Abg r];exact q⟩
 | _=>exact (show False from e).elim
theorem Ahl (ha:PE X a ta) (he:∀ whole,isTrue a X.env whole=(do let v ← whole;standAt a.pos;holding [v] (truthy v))) :
  PT X a (λ σ H Q=>ta σ H λ x H'=>∃ k,Au6 X.K x H' k/\Q k H'):=by
 intro pins s σ H Q I h
 exact isTrue_plain (thn (ha pins s σ H _ I h) λ v s1 ⟨x,H1,I1,r1,q1⟩=>Apf pins s1 σ H1 x v Q I1 r1 q1) (he _)
theorem Ab3:OpR X (binaryOp .Add) (λ x y H Q=>∃ i j,x=.str i/\y=.str j/\i.length+j.length<=sizeLine/\Q (.str (i++j)) H):=by
 intro pins s σ H x y v u Q I rx ry h
 obtain⟨i,j,rfl,rfl,hz,q⟩:=h
 obtain⟨t,rfl⟩:=rx
 obtain⟨t',rfl⟩:=ry
 exact add_str (λ t' tk=>⟨.str (i++j),H,I.tok _,⟨_,rfl⟩,q⟩) hz
theorem vals1 {x:V}{us:List Value}(r:Vals [x] us):∃ u,us=[u]/\RelV x u:=by
 cases r with
 | cons r1 r2=>cases r2;exact⟨_,rfl,r1⟩
theorem vals2 {x y:V}{us:List Value}(r:Vals [x,y] us):∃ u w',us=[u,w']/\RelV x u/\RelV y w':=by
 cases r with
 | cons r1 r2 =>
  cases r2 with
  | cons r3 r4=>cases r4;exact⟨_,_,rfl,r1,r3⟩
theorem Ads (hc:X.calm=true):Fy X (.builtin "max") (λ xs H Q=>∃ i j,xs=[.int i,.int j]/\Q (.int (if j > i then j else i)) H):=by
 intro pins s σ H xs us Q I r h
 obtain⟨i,j,rfl,q⟩:=h
 obtain⟨u,w',rfl,⟨t,rfl⟩,⟨t',rfl⟩⟩:=vals2 r
 refine max_two_ints (I.ok.hd hc) λ h' tk k=>⟨_,H,I.kept k,?_,q⟩
 by_cases hj:j > i
 ·rw [if_pos hj,if_pos hj];exact⟨_,rfl⟩
 ·rw [if_neg hj,if_neg hj];exact⟨_,rfl⟩
theorem Acw (hc:X.calm=true):Fy X (.builtin "min") (λ xs H Q=>∃ i j,xs=[.int i,.int j]/\Q (.int (if j<i then j else i)) H):=by
 intro pins s σ H xs us Q I r h
 obtain⟨i,j,rfl,q⟩:=h
 obtain⟨u,w',rfl,⟨t,rfl⟩,⟨t',rfl⟩⟩:=vals2 r
 refine min_two_ints (I.ok.hd hc) λ h' tk k=>⟨_,H,I.kept k,?_,q⟩
 by_cases hj:j<i
 ·rw [if_pos hj,if_pos hj];exact⟨_,rfl⟩
 ·rw [if_neg hj,if_neg hj];exact⟨_,rfl⟩
def Axl (K:PySem.W.Frag) (x:V) (H:Hp) (n:Nat):Prop :=
 match x with
 | .str y=>y.length<=sizeLine/\n=y.length
 | .byt y=>y.size<=sizeLine/\n=y.size
 | .ref p=>(∃ xs,SqL K H p xs/\n=xs.length)\/∃ xs,SqT K H p xs/\n=xs.length
 | _=>False
theorem Zg:Fy X (.builtin "len") (λ xs H Q=>∃ x n,xs=[x]/\Axl X.K x H n/\Q (.int n) H):=by
 intro pins s σ H xs us Q I r h
 obtain⟨x,n,rfl,e,q⟩:=h
 obtain⟨u,rfl,rx⟩:=vals1 r
 have hl:=Qt
 have hs:sizeLine=16777216:=sizeLine_eq
 cases x with
 | str y =>
  obtain⟨t,rfl⟩:=rx
  obtain⟨hy,e'⟩:y.length<=sizeLine/\n=y.length:=e
  subst e'
  exact len_str (by omega) ⟨.int _,H,I.tok _,⟨_,rfl⟩,q⟩
 | byt y =>
  obtain⟨t,rfl⟩:=rx
  obtain⟨hy,e'⟩:y.size<=sizeLine/\n=y.size:=e
  subst e'
  exact PySem.W.len_bytes (by omega) ⟨.int _,H,I.tok _,⟨_,rfl⟩,q⟩
 | ref p =>
  cases rx
  have e':(∃ xs,SqL X.K H p xs/\n=xs.length)\/∃ xs,SqT X.K H p xs/\n=xs.length:=e
  rcases e' with ⟨xs,hx,e'⟩|⟨xs,hx,e'⟩
  ·subst e'
   obtain⟨its,r',pl,hz⟩:=I.list hx
   have hlen:=r'.length
   exact Calls.call_len_list pl.isList (by simp only [List.size_toArray];omega) ⟨.int xs.length,H,I.tok _,⟨_,by simp only [List.size_toArray];rw [hlen]⟩,q⟩
  ·subst e'
   obtain⟨its,r',pl,hz⟩:=I.tuple hx
   have hlen:=r'.length
   exact len_tuple pl (by simp only [List.size_toArray];omega) ⟨.int xs.length,H,I.tok _,⟨_,by simp only [List.size_toArray];rw [hlen]⟩,q⟩
 | _=>exact (show False from e).elim
theorem Xh:Fy X (.builtin "divmod") (λ xs H Q=>∃ i j,xs=[.int i,.int j]/\Arl i j/\∀ p,H p=none->Q (.ref p) (upd H p (.tup [.int (i / j),.int (i % j)]))):=by
 intro pins s σ H xs us Q I r h
 obtain⟨i,j,rfl,⟨h1,h2⟩,q⟩:=h
 obtain⟨u,w',rfl,⟨t,rfl⟩,⟨t',rfl⟩⟩:=vals2 r
 refine divmod_int (by omega) ?_ (.inl (PyProof.noPylong_small (by omega)))
 rw [Int.fdiv_eq_ediv_of_nonneg i (by omega),Int.fmod_eq_emod_of_nonneg i (by omega)]
 have hn:H s.heap.objs.size=none:=I.hok.fresh (Nat.le_refl _)
 refine⟨.ref s.heap.objs.size,_,?_,rfl,q _ hn⟩
 refine I.laid (λ b o e=>Heap.get?_push_of_some _ e) (Nat.le_refl _) ⟨by simp only [List.length_cons,List.length_nil];rw [sizeLine_eq];decide,[.int (i / j) s.toks,.int (i % j) (s.toks+1)],.cons ⟨_,rfl⟩ (.cons ⟨_,rfl⟩ .nil),?_⟩
 exact⟨_,Heap.get?_push_size s.heap rfl,rfl,0,rfl⟩
end
end L2
namespace L2
open PySem PySem.Spec PyProof.Rows
structure ObjM (h:Heap) (x dx C:Addr) (mA:Str->Option Value):Prop where
 obj:h.get? x=some (PySem.W.instObj C dx)
 ns:h.Ns1 dx mA
 ne:dx≠x
section
variable {prog:Program}{w:World}{A:Around}{E:Value->Shared->Prop}{s:Shared}{K:PySem.W.Frag}{x dx C f:Addr}{mA:Str->Option Value}{name:Str}{v:Value}
end
noncomputable def Aw9 (f:Str) (v:V):List (Str × V)->List (Str × V)
 | []=>[(f,v)]
 | (g,x) :: r=>if g=f then (g,v) :: r else (g,x) :: Aw9 f v r
theorem Acp.some_of {v:V}{o:Option Value}(r:Acp (some v) o):∃ u,o=some u/\RelV v u:=by
 cases o with
 | none=>exact (show False from r).elim
 | some u=>exact⟨u,rfl,r⟩
section
variable {P:Program}{w:World}{H H':Hp}{h h':Heap}{a C dx:Addr}{fs fs':List (Str × V)}
end
structure Cls (K:PySem.W.Frag) (C:Addr):Prop where
 pg:PySem.W.plainGet K C Str.empty=true
 hd:PySem.W.hasDictIn K C=true
 po:PySem.W.plainOver K C=true
 sa:PySem.W.findIn K (.ref C) "__setattr__"=some (some (.builtin "object.__setattr__"))
structure Con (K:PySem.W.Frag) (C:Addr) (f:Str) (v:V) (u:Value):Prop where
 at_:PySem.W.findIn K (.ref C) f=some (some u)
 rel:RelV v u
 get:PySem.W.specialIn K u "__get__"=some none
 cp:PySem.W.copiedNames.contains f=false
structure Meth (K:PySem.W.Frag) (C:Addr) (m:Str) (f:Addr):Prop where
 at_:PySem.W.findIn K (.ref C) m=some (some (.ref f))
 fn:PySem.W.isFn K (.ref f)=true
 kp:PySem.W.keepIn K (.ref f)=true
section
variable {X:Cx}{pins:List (Addr × Obj)}{σ:St}{H:Hp}{s:Shared}{a C dx:Addr}{fs:List (Str × V)}{f:Str}{v:V}{A:Around}{E:Value->Shared->Prop}
end
section
variable {X:Cx}{o e value:Expr}{f:Str}{pos pos' tpos:Pos}{ta tv:TE}
end
section
variable {X:Cx}{pins:List (Addr × Obj)}{σ:St}{H:Hp}{s:Shared}{A:Around}{E:Value->Shared->Prop}{Q:Value->Shared->Prop}{c:Value}{b:Bool}
inductive TyOf (K:PySem.W.Frag) (H:Hp):V->Value->Prop where
 | non:TyOf K H .non (.type "NoneType")
 | bl (x:Bool):TyOf K H (.bl x) (.type "bool")
 | int (i:Int):TyOf K H (.int i) (.type "int")
 | str (x:Str):TyOf K H (.str x) (.type "str")
 | flt (x:UInt64):TyOf K H (.flt x) (.type "float")
 | lst {a:Addr} {xs:List V} (e:H a=some (.lst xs)):TyOf K H (.ref a) (.type "list")
 | frz {a:Addr} {o:Obj} {xs:List V} (e:H a=some (.frz o (.lst xs))):TyOf K H (.ref a) (.type "list")
 | tup {a:Addr} {xs:List V} (e:H a=some (.tup xs)):TyOf K H (.ref a) (.type "tuple")
 | dK {a:Addr} {kvs:List (Key × V)} (e:H a=some (.dK kvs)):TyOf K H (.ref a) (.type "dict")
 | dT {a:Addr} {kvs:List (List Key × V)} (e:H a=some (.dT kvs)):TyOf K H (.ref a) (.type "dict")
 | ins {a C dx:Addr} {fs:List (Str × V)} (e:H a=some (.ins C dx fs)) (cl:Cls K C) (ha:PySem.W.findIn K (.ref C) "__class__"=some (some (.builtin "object.__class__")))
   (hn:PySem.W.specialIn K (.builtin "object.__class__") "__get__"=some (some (.builtin "getset_descriptor.__get__"))) (htk:PySem.W.takesIn K (.builtin "object.__class__")=some true)
   (hm:PySem.W.mroIn K C (.type "object")=some true):TyOf K H (.ref a) (.ref C)
end
end L2
namespace L2
open PySem PySem.Spec PyProof.Rows
structure Room (k:Nat) (A:Around):Prop where
 hd:A.handled=none
 dp:A.depth+3 * k+5<recursionLimit
 un:A.units+16 * k+200<cLine
theorem Room.mono {j k:Nat}{A:Around}(r:Room k A) (h:j<=k):Room j A:=⟨r.hd,by have:=r.dp;omega,by have:=r.un;omega⟩
theorem Room.deeper {k:Nat}{A:Around}(r:Room (k+1) A) (env:Env):Room k (A.deeper env) :=
 ⟨r.hd,by have:=r.dp;show A.depth+1+3 * k+5<_;omega,by have:=r.un;show A.units+3+16 * k+200<_;omega⟩
theorem Room.depth {k:Nat}{A:Around}(r:Room k A):A.depth<recursionLimit:=by have:=r.dp;omega
theorem Room.units {k:Nat}{A:Around}(r:Room k A):A.units+64<cLine:=by have:=r.un;omega
noncomputable def K7:TA:=λ _ H Q=>Q [] H
noncomputable def Bw (ta:TE) (tr:TA):TA:=λ σ H Q=>ta σ H λ x H1=>tr σ H1 λ xs H2=>Q (x :: xs) H2
section
variable {X:Cx}{e:Expr}{es:List Expr}{te:TE}{t:TA}{pos:Pos}
theorem Bl:PA X [] K7:=λ _ _ _ _ H Q I h=>Calls.spliced_nil ⟨[],H,I,.nil,h⟩
theorem Ak (ha:PE X e te) (hr:PA X es t) (hs:starEach (e :: es) X.env=(false,eval e X.env) :: starEach es X.env:=by rfl):PA X (e :: es) (Bw te t):=by
 intro pos pins s σ H Q I h
 rw [hs]
 show wpAny _ _ (spliced ((false,eval e X.env) :: backTo pos (starEach es X.env))) _ _ s
 refine Calls.spliced_cons (thn (ha pins s σ H _ I h) ?_)
 rintro u s1 ⟨x,H1,I1,r1,q1⟩
 exact thn (hr pos pins s1 σ H1 _ I1 q1) λ us s2 ⟨xs,H2,I2,r2,q2⟩=>⟨x :: xs,H2,I2,.cons r1 r2,q2⟩
noncomputable def At0 (t:TA):TE:=λ σ H Q=>t σ H λ xs H1=>xs.length<=sizeLine/\∀ p,H1 p=none->Q (.ref p) (upd H1 p (.tup xs))
noncomputable def Ar3 (t:TA):TE:=λ σ H Q=>t σ H λ xs H1=>xs.length<=sizeLine/\∀ p,H1 p=none->Q (.ref p) (upd H1 p (.lst xs))
theorem Aji {x1}(h:PA X es t):PE X (.Tuple es x1 pos) (At0 t):=by
 intro pins s σ H Q I hq
 refine wpAny_Tuple_spliced (thn (h pos pins s σ H _ I hq) λ us s1 ⟨xs,H1,I1,r,z,q⟩=>⟨by rw [<-r.length];exact z,?_⟩)
 have hf:H1 s1.heap.objs.size=none:=I1.hok.fresh (Nat.le_refl _)
 refine⟨.ref s1.heap.objs.size,upd H1 s1.heap.objs.size (.tup xs),I1.laid (t':=s1.toks) (λ b u e=>Heap.get?_push_of_some _ e) (Nat.le_refl _) ?_,rfl,q _ hf⟩
 exact⟨z,us,r,⟨_,Heap.get?_push_size _ rfl,rfl,_,rfl⟩⟩
theorem Aax (h:PA X es t):PE X (.List es pos) (Ar3 t):=by
 intro pins s σ H Q I hq
 refine wpAny_List_spliced (thn (h pos pins s σ H _ I hq) λ us s1 ⟨xs,H1,I1,r,z,q⟩=>⟨by rw [<-r.length];exact z,?_⟩)
 have hf:H1 s1.heap.objs.size=none:=I1.hok.fresh (Nat.le_refl _)
 refine⟨.ref s1.heap.objs.size,upd H1 s1.heap.objs.size (.lst xs),I1.laid (t':=s1.toks) (λ b u e=>Heap.get?_push_of_some _ e) (Nat.le_refl _) ?_,rfl,q _ hf⟩
 exact⟨z,us,0,r,Heap.get?_push_size _ rfl⟩
end
abbrev Sp:=List V->Hp->VK->XK->Prop
abbrev CXT:=List Env->Hp->Shared->XK->Value->Shared->Prop
structure Env0 (P:Program) (w:World) (K:PySem.W.Frag) (mg:Str->Option Value) (base:Heap) (A:Around) (outer:List Env) (s:Shared) (H:Hp):Prop where
 frames:A.frames=some outer
 mod:Mod K mg base
 bs:∀ b o,base.get? b=some o->s.heap.get? b=some o/\H b=none
 bsz:base.objs.size<=s.heap.objs.size
 funs:s.heap.FunFrames base outer
 frf:∀ b∈frs outer,H b=none
 hok:HOk P w H s.heap
 bare:AllBare s.gens
def CE (outer:List Env) (P:Program) (w:World) (H:Hp) (s:Shared) (Q:VK) (u:Value) (s':Shared):Prop :=
 ∃ v H',s'.os=s.os/\AllBare s'.gens/\Un (frs outer) [] H H' s.heap s'.heap/\HOk P w H' s'.heap/\RelV v u/\Q v H'
def CR (CX:CXT) (outer:List Env) (P:Program) (w:World) (H:Hp) (s:Shared) (Q:VK) (E:XK) (r:Result) (s':Shared):Prop :=
 match r with
 | .ok (.ret u)=>CE outer P w H s Q u s'
 | .ok _=>False
 | .error e=>CX outer H s E e s'
structure FnOk (P:Program) (w:World) (K:PySem.W.Frag) (mg:Str->Option Value) (base:Heap) (CX:CXT) (k:Nat) (f:Addr) (fd:FuncData) (ps:List Str) (sp:Sp):Prop where
 len:∀ vs H Q E,sp vs H Q E->vs.length=ps.length
 run:∀ (A:Around) (outer:List Env) (s:Shared) (H:Hp) (args:Args) (us:List Value) (vs:List V) (Q:VK) (E:XK),Room k A->Env0 P w K mg base A outer s H->BindsTo s fd args (ps.zip us)->Vals vs us->sp vs H Q E →
  codeAny (model P w) A (.call (.ref f) args) (CR CX outer P w H s Q E) s
section
variable {X:Cx}{pins:List (Addr × Obj)}{σ:St}{H:Hp}{s s':Shared}
theorem Inv.env0 (I:Inv X pins σ H s):Env0 X.prog X.w X.K X.mg X.base X.A X.stack s H :=
 ⟨I.ok.frames,I.ok.mod,I.bs,Nat.le_trans I.ok.bsz I.sz,I.stack,I.stkFree,I.hok,I.bare⟩
theorem Inv.after {Q:VK}{u:Value}(I:Inv X pins σ H s) (h:CE X.stack X.prog X.w H s Q u s'):EP X pins σ Q u s':=by
 obtain⟨v,H',os,bare,un,hok,r,q⟩:=h
 obtain⟨hh,g,d,t,os'⟩:=s'
 obtain rfl:os'=s.os:=os
 exact⟨v,H',I.call (h':=hh) (g':=g) (d':=d) (t':=t) (ch:=[]) un hok bare (λ b z=>absurd z (by simp)),r,q⟩
end
noncomputable def Jj (sp:Sp) (dvs:List V) (E:XK) (t:TA):TE:=λ σ H Q=>t σ H λ vs H1=>sp (vs++dvs) H1 Q E
def Binds (K:PySem.W.Frag) (fd:FuncData) (ps:List Str) (ds:List Value):Prop :=
 ∀ (s:Shared) (us:List Value),K.In s.heap->(us++ds).length=ps.length->BindsTo s fd ⟨us,[]⟩ (ps.zip (us++ds))
theorem Binds.all {K:PySem.W.Frag}{fd:FuncData}{ps:List Str}(h:∀ us:List Value,us.length=ps.length->bindArgs fd ⟨us,[]⟩=pure (ps.zip us)):Binds K fd ps []:=λ s us _ hl=>by
 rw [List.append_nil] at hl ⊢
 exact .of_eq (h us hl)
def Passes (CX:CXT) (X:Cx) (E:XK):Prop:=∀ (pins:List (Addr × Obj)) (σ:St) (H:Hp) (s:Shared) (e:Value) (s':Shared),Inv X pins σ H s->CX X.stack H s E e s'->X.xe e s'
section
variable {X:Cx}{CX:CXT}{k:Nat}{f C:Addr}{fd:FuncData}{ps:List Str}{sp:Sp}{dvs:List V}{ds:List Value}{E:XK}{x m:Str}{p pos apos:Pos}{e o:Expr}{es:List Expr}{ta:TE}{t:TA}
theorem Ao8 {pins:List (Addr × Obj)}{σ:St}{H:Hp}{s:Shared}{Q:VK}{us:List Value}{vs:List V}(F:FnOk X.prog X.w X.K X.mg X.base CX k f fd ps sp) (hr:Room k X.A) (hb:Binds X.K fd ps ds) (hd:Vals dvs ds) (hx:Passes CX X E)
  (I:Inv X pins σ H s) (r:Vals vs us) (h:sp (vs++dvs) H Q E):wpAny (model X.prog X.w) X.A (call (.ref f) us) (EP X pins σ Q) X.xe s:=by
 have r2:Vals (vs++dvs) (us++ds):=r.append hd
 have hl:(us++ds).length=ps.length:=by rw [<-r2.length];exact F.len _ _ _ _ h
 refine wpAny_call (codeAny_mono (F.run X.A X.stack s H ⟨us,[]⟩ (us++ds) (vs++dvs) Q E hr I.env0 (hb s us I.kIn hl) r2 h) λ r s' hq=>?_)
 cases r with
 | error e=>exact hx pins σ H s e s' I hq
 | ok fl =>
  cases fl with
  | ret u=>exact I.after hq
  | next=>exact False.elim hq
  | brk=>exact False.elim hq
  | cont=>exact False.elim hq
theorem Di (F:FnOk X.prog X.w X.K X.mg X.base CX k f fd ps sp) (hr:Room k X.A) (hg:Gl X x) (hm:X.mg x=some (.ref f)) (hk:PySem.W.keepIn X.K (.ref f)=true) (hb:Binds X.K fd ps ds) (hd:Vals dvs ds) (hx:Passes CX X E)
  (ha:PA X (e :: es) t) (hdb:(x == ("__debug__":Str))=false:=by decide) (he:starEach (e :: es) X.env=(false,eval e X.env) :: starEach es X.env:=by rfl) (hpl:(backTo pos (starEach es X.env)).any (·.1)=false:=by rfl) :
  PE X (.Call (.Name x p) (e :: es) [] pos) (Jj sp dvs E t):=by
 intro pins s σ H Q I h
 refine wpAny_Call_Name_kw (Mf I hg hm ?_ hdb)
 refine PySem.W.callWith_K (h₀:=X.base) I.ok.mod.kin hk (thn (ha pos pins s σ H _ I h) λ us s1 ⟨vs,H1,I1,r,q⟩=>⟨I1.kIn,?_⟩) he hpl
 exact Ao8 F hr hb hd hx I1 r q
structure Mk (K:PySem.W.Frag) (C f:Addr):Prop where
 makes:PySem.W.makesIn K C=true
 init:PySem.W.findIn K (.ref C) "__init__"=some (some (.ref f))
 fn:PySem.W.isFn K (.ref f)=true
 kp:PySem.W.keepIn K (.ref C)=true
end
section
variable {X:Cx}{CX:CXT}{k:Nat}{f C:Addr}{fd:FuncData}{ps ks:List Str}{sp:Sp}{E:XK}{x m:Str}{p pos apos kpos:Pos}{e o:Expr}{es:List Expr}{kws:List Keyword}{te ta:TE}{t tk:TA}{nm:Option Str}
structure KBinds (K:PySem.W.Frag) (fd:FuncData) (ps ks:List Str) (g:List Value->List Value->List Value) (gV:List V->List V->List V):Prop where
 to:∀ (s:Shared) (us ws:List Value),K.In s.heap->(g us ws).length=ps.length->BindsTo s fd ⟨us,ks.zip ws⟩ (ps.zip (g us ws))
 rel:∀ {vs:List V} {us:List Value} {zs:List V} {ws:List Value},Vals vs us->Vals zs ws->Vals (gV vs zs) (g us ws)
variable {g:List Value->List Value->List Value}{gV:List V->List V->List V}
end
structure FnScope (N P:List Str) (sc:Scope):Prop where
 kind:sc.kind=.function
 co:sc.isCoroutine=false
 gen:sc.isGenerator=false
 nd:N.Nodup
 pre:N.take P.length=P
 par:∀ x∈P,sc.names.lookup x=some .local\/sc.names.lookup x=some .cell
 nofree:∀ y∈sc.names,y.2≠.free
theorem Ve {kindOf:Str->Option NameKind}{x:Str}:∀ {binds:List (Str × Value)}{m:Str->Option Value},(∀ v,(x,v)∉binds)->bindL kindOf binds m x=m x
 | [],_,_=>rfl
 | (n,v) :: r,m,h=>by
  unfold bindL
  rw [Ve λ w hw=>h w (List.mem_cons_of_mem _ hw)]
  split
  ·have:x≠n:=by rintro rfl;exact h v List.mem_cons_self
   simp [this]
  ·rfl
theorem Wy {kindOf:Str->Option NameKind}{x:Str}:∀ {binds:List (Str × Value)}{m:Str->Option Value},(∀ v,(x,v)∉binds)->bindC kindOf binds m x=m x
 | [],_,_=>rfl
 | (n,v) :: r,m,h=>by
  unfold bindC
  rw [Wy λ w hw=>h w (List.mem_cons_of_mem _ hw)]
  split
  ·rfl
  ·have:x≠n:=by rintro rfl;exact h v List.mem_cons_self
   simp [this]
theorem Vr {kindOf:Str->Option NameKind}{x:Str}{v:Value}:∀ {P:List Str}{vs:List Value}{i:Nat}{m:Str->Option Value},P.Nodup->P[i]?=some x->vs[i]?=some v->kindOf x=some .local →
  bindL kindOf (P.zip vs) m x=some v
 | [],_,_,_,_,h,_,_=>by simp at h
 | _ :: _,[],_,_,_,_,h,_=>by simp at h
 | p :: P,w :: vs,0,m,nd,h1,h2,hk=>by
  simp at h1 h2;subst h1;subst h2
  show bindL kindOf ((p,w) :: P.zip vs) m p=_
  unfold bindL
  rw [Ve λ v hv=>(List.nodup_cons.mp nd).1 (List.of_mem_zip hv).1,if_pos hk]
  simp
 | p :: P,w :: vs,i+1,m,nd,h1,h2,hk=>by
  show bindL kindOf ((p,w) :: P.zip vs) m x=_
  unfold bindL
  exact Vr (i:=i) (List.nodup_cons.mp nd).2 (by simpa using h1) (by simpa using h2) hk
theorem Vv {kindOf:Str->Option NameKind}{x:Str}{v:Value}:∀ {P:List Str}{vs:List Value}{i:Nat}{m:Str->Option Value},P.Nodup->P[i]?=some x->vs[i]?=some v->kindOf x≠some .local →
  bindC kindOf (P.zip vs) m x=some v
 | [],_,_,_,_,h,_,_=>by simp at h
 | _ :: _,[],_,_,_,_,h,_=>by simp at h
 | p :: P,w :: vs,0,m,nd,h1,h2,hk=>by
  simp at h1 h2;subst h1;subst h2
  show bindC kindOf ((p,w) :: P.zip vs) m p=_
  unfold bindC
  rw [Wy λ v hv=>(List.nodup_cons.mp nd).1 (List.of_mem_zip hv).1,if_neg hk]
  simp
 | p :: P,w :: vs,i+1,m,nd,h1,h2,hk=>by
  show bindC kindOf ((p,w) :: P.zip vs) m x=_
  unfold bindC
  exact Vv (i:=i) (List.nodup_cons.mp nd).2 (by simpa using h1) (by simpa using h2) hk
noncomputable def start (N:List Str) (vs:List V):St:=vs.map some++List.replicate (N.length-vs.length) none
noncomputable def Ajo (CX:CXT) (P:Program) (w:World) (K:PySem.W.Frag) (mg:Str->Option Value) (base:Heap) (N:List Str) (qual:Str) (scope:Scope) (f:Addr) (cd:Value) (A:Around) (outer:List Env) (s:Shared) (H:Hp) (E:XK):Cx where
 prog:=P
 w:=w
 K:=K
 mg:=mg
 base:=base
 A:=A.deeper (envOfC qual scope s.heap.objs.size f cd)
 N:=N
 s₀:=s
 H₀:=H
 env:=envOfC qual scope s.heap.objs.size f cd
 outer:=outer
 stack:=envOfC qual scope s.heap.objs.size f cd :: outer
 ex:=[]
 calm:=true
 fn:=λ _=>true
 pn:=[]
 xe:=λ e s'=>wpAny (model P w) (A.deeper (envOfC qual scope s.heap.objs.size f cd)) (leaving (envOfC qual scope s.heap.objs.size f cd) e) (λ _ s''=>CX outer H s E e s'') (λ e' s''=>CX outer H s E e' s'') s'
theorem Zk {sc:Scope}{n:Nat}{x:Str}(h:sc.names.lookup x=some .cell):∃ c,(cellsFrom n sc.names []).lookup x=some c:=by
 have q:=PySem.W.cellsFrom_some sc.names n [] (.inl h)
 exact Option.isSome_iff_exists.mp q
theorem Adt {CX:CXT}{P:Program}{w:World}{K:PySem.W.Frag}{mg:Str->Option Value}{base:Heap}{N ps:List Str}{qual:Str}{scope:Scope}{f:Addr}{cd:Value}{A:Around}{outer:List Env}{s s1:Shared}{H:Hp}{E:XK}{us:List Value}{vs:List V}
  (S:FnScope N ps scope) (hd:A.handled=none) (e0:Env0 P w K mg base A outer s H) (hl:vs.length=ps.length) (r:Vals vs us)
  (x:InCallC s s.heap.objs.size (bindL (envOfC qual scope s.heap.objs.size f cd).kindOf (ps.zip us) λ _=>none) (cellsFrom (s.heap.objs.size+1) scope.names []) (bindC (envOfC qual scope s.heap.objs.size f cd).kindOf (ps.zip us) λ _=>none) s1) :
  Inv (Ajo CX P w K mg base N qual scope f cd A outer s H E) [] (start N vs) H s1:=by
 have hpl:ps.length<=N.length:=by have:=congrArg List.length S.pre;rw [List.length_take] at this;omega
 obtain⟨h1,tk,rfl,hk⟩:=x.done
 have noA:∀ b:Addr,b∉(Ajo CX P w K mg base N qual scope f cd A outer s H E).ex:=λ b z=>absurd (show b∈([]:List Addr) from z) (by simp)
 refine⟨⟨e0.mod,S.kind,rfl,rfl,Nat.le_refl _,λ y z c h1 h2=>?_,λ y hy=>?_,λ y c _ h=>?_,λ _=>hd,Around.frames_deeper e0.frames,.inr ⟨rfl,rfl⟩,λ b z=>absurd z (noA b),e0.bs,e0.bsz,λ b _ _=>noA b,λ b z=>absurd z (noA b),e0.funs,e0.frf⟩,
  rfl,e0.bare,Un.kept hk,⟨_,x.toInCall.ns,λ i y v h1 h2 h3=>?_⟩,λ y c h=>⟨_,x.cell y c h⟩,e0.hok.fresh (Nat.le_refl _),λ y c h=>?_,λ p hp=>absurd (show p∈([]:List (Addr × Obj)) from hp) (by simp),e0.hok.kept hk,?_⟩
 ·exact name_of_addr x.apart (PySem.mem_of_lookup h1) (PySem.mem_of_lookup h2)
 ·have hy:scope.names.lookup y=some .cell\/scope.names.lookup y=some .free:=hy
  rcases hy with hy|hy
  ·exact Zk hy
  ·exact absurd rfl (S.nofree _ (PySem.mem_of_lookup hy))
 ·exact Nat.le_of_lt (x.above y c (PySem.mem_of_lookup h))
 ·have hi:i<vs.length:=by
   unfold start at h2
   by_cases hi:i<vs.length
   ·exact hi
   ·rw [List.getElem?_append_right (by simpa using hi)] at h2
    rw [List.getElem?_replicate] at h2
    split at h2<;>cases h2
  have ha:vs[i]?=some v:=by
   unfold start at h2
   rw [List.getElem?_append_left (by simpa using hi),List.getElem?_map] at h2
   cases e:vs[i]? with
   | none=>rw [e] at h2;cases h2
   | some a=>rw [e] at h2;cases h2;rfl
  obtain⟨u,hu,rv⟩:=r.get ha
  have hp:ps[i]?=some y:=by
   rw [<-S.pre,List.getElem?_take_of_lt (by omega)];exact h1
  have ndP:ps.Nodup:=by rw [<-S.pre];exact S.nd.sublist (List.take_sublist _ _)
  refine⟨u,rv,?_⟩
  rcases S.par y (List.mem_of_getElem? hp) with k|k
  ·exact .inl ⟨k,Vr ndP hp hu k⟩
  ·obtain⟨c,e⟩:=Zk (n:=s.heap.objs.size+1) k
   refine .inr ⟨.inl k,c,e,?_⟩
   have q:=x.cell y c e
   rw [Vv ndP hp hu (by show scope.names.lookup y≠_;rw [k];decide)] at q
   exact q
 ·exact e0.hok.fresh (Nat.le_of_lt (x.above y c (PySem.mem_of_lookup h)))
 ·unfold start
  show _=N.length
  rw [List.length_append,List.length_map,List.length_replicate]
  omega
theorem Ako {CX:CXT}{P:Program}{w:World}{K:PySem.W.Frag}{mg:Str->Option Value}{base:Heap}{k:Nat}{f:Addr}{name qual:Str}{params:Arguments}{body:List Stmt}{scope:Scope}{dV kV doc pm cdv ct oc:Value}{an od:Option Addr}
  {osl:Array (Option Value)} {N ps:List Str} {sp:Sp} (lk:K.lookup f=some ⟨oc,od,.func (PySem.W.fnOf name qual params body scope dV kV doc pm an cdv ct),osl⟩) (hcd:PySem.W.codeIn K cdv qual=true) (S:FnScope N ps scope)
  (len:∀ vs H Q E,sp vs H Q E->vs.length=ps.length)
  (hbody:∀ (A:Around) (outer:List Env) (s:Shared) (H:Hp) (vs:List V) (Q:VK) (E:XK),Room k (A.deeper (envOfC qual scope s.heap.objs.size f cdv))->sp vs H Q E →
   ∃ t,PSs (Ajo CX P w K mg base N qual scope f cdv A outer s H E) body t/\t { nx:=λ _ H'=>Q .non H',rt:=Q } (start N vs) H) :
  FnOk P w K mg base CX (k+1) f (PySem.W.fnOf name qual params body scope dV kV doc pm an cdv ct) ps sp:=by
 refine⟨len,λ A outer s H args us vs Q E hr e0 hb r hsp=>?_⟩
 have hl:=len _ _ _ _ hsp
 have KX:K.In s.heap:=e0.mod.kin.keeps λ b o e=>(e0.bs b o e).1
 have lim:s.heap.NoLimit:=e0.mod.nolimit.keeps λ b o e=>(e0.bs b o e).1
 have hkind:∀ y∈ps.zip us,scope.names.lookup y.1=some .local\/(scope.names.lookup y.1=some .cell/\((cellsFrom (s.heap.objs.size+1) scope.names []).lookup y.1).isSome=true):=λ ⟨n,v⟩ hy=>by
  rcases S.par n (List.of_mem_zip hy).1 with q|q
  ·exact .inl q
  ·exact .inr ⟨q,PySem.W.cellsFrom_some _ _ _ (.inl q)⟩
 refine codeAny_call_function hr.depth (KX _ _ lk) rfl S.co S.gen rfl (PySem.W.codeRec_of KX hcd) (hb _ _ _ _ ?_)
 refine wpAny_newFunctionEnv_cells S.kind hkind λ env he s1 x=>?_
 subst he
 refine⟨lim.keeps x.toInCall.keep,codeAny_func ?_⟩
 obtain⟨t,ht,hq⟩:=hbody A outer s H vs Q E (hr.deeper _) hsp
 have I:Inv (Ajo CX P w K mg base N qual scope f cdv A outer s H E) [] (start N vs) H s1:=Adt S hr.hd e0 hl r x
 refine wpAny_mono (ht [] s1 (start N vs) H _ I hq) (λ fl s' hs=>?_) λ e s' hs=>hs
 have fin:∀ {σ':St} {H':Hp} {v:V} {u:Value},Inv (Ajo CX P w K mg base N qual scope f cdv A outer s H E) [] σ' H' s'->RelV v u->Q v H'->CE outer P w H s Q u s' :=
  λ {σ' H' v u} J rv q=>⟨v,H',J.os,J.bare,J.base,J.hok,rv,q⟩
 cases fl with
 | ret u =>
  obtain⟨v,σ',H',J,rv,q⟩:=hs
  exact fin J rv q
 | next =>
  obtain⟨σ',H',J,q⟩:=hs
  exact fin (v:=V.non) (u:=Value.none) J rfl q
 | brk =>
  obtain⟨_,_,_,q⟩:=hs
  exact False.elim q
 | cont =>
  obtain⟨_,_,_,q⟩:=hs
  exact False.elim q
end L2
namespace L2
open PySem PySem.Spec PyProof.Rows
section
variable {X:Cx}{x:Str}{p pos:Pos}{e:Expr}{es:List Expr}{t:TA}{id T:String}{r:List V->Hp->VK->Prop}
noncomputable def tCB (r:List V->Hp->VK->Prop) (t:TA):TE:=λ σ H Q=>t σ H λ vs H1=>r vs H1 Q
theorem Ls (hc:Fy X (.builtin id) r) (hg:Gl X x) (hm:X.mg x=none) (hv:bootBuiltins x=some (.builtin id)) (ha:PA X (e :: es) t) (hn:x≠"__name__":=by decide) (hdb:(x == ("__debug__":Str))=false:=by decide)
  (he:starEach (e :: es) X.env=(false,eval e X.env) :: starEach es X.env:=by rfl) (hpl:(backTo pos (starEach es X.env)).any (·.1)=false:=by rfl):PE X (.Call (.Name x p) (e :: es) [] pos) (tCB r t):=by
 intro pins s σ H Q I h
 refine wpAny_Call_Name_kw (Qf I hg hm hv ?_ hn hdb)
 exact PyProof.Rows.callWith_builtin1 (thn (ha pos pins s σ H _ I h) λ us s1 ⟨vs,H1,I1,r1,q1⟩=>hc pins s1 σ H1 vs us Q I1 r1 q1) he hpl
theorem Aeb (hc:Fy X (.type T) r) (hg:Gl X x) (hm:X.mg x=none) (hv:bootBuiltins x=some (.type T)) (ha:PA X (e :: es) t) (hn:x≠"__name__":=by decide) (hdb:(x == ("__debug__":Str))=false:=by decide)
  (he:starEach (e :: es) X.env=(false,eval e X.env) :: starEach es X.env:=by rfl) (hpl:(backTo pos (starEach es X.env)).any (·.1)=false:=by rfl):PE X (.Call (.Name x p) (e :: es) [] pos) (tCB r t):=by
 intro pins s σ H Q I h
 refine wpAny_Call_Name_kw (Qf I hg hm hv ?_ hn hdb)
 exact PyProof.Rows.callWith_type1 (thn (ha pos pins s σ H _ I h) λ us s1 ⟨vs,H1,I1,r1,q1⟩=>hc pins s1 σ H1 vs us Q I1 r1 q1) he hpl
end
end L2
namespace L2
open PySem PySem.Spec PyProof.Rows
section
variable {κ:Type} [DecidableEq κ]
noncomputable def Nf (kvs:List (κ × V)) (k:κ):Option V:=(kvs.find? λ kv=>decide (kv.1=k)).map (·.2)
noncomputable def putK (kvs:List (κ × V)) (k:κ) (v:V):List (κ × V) :=
 if (kvs.any λ kv=>decide (kv.1=k))=true then kvs.map (λ kv=>if kv.1=k then (kv.1,v) else kv) else kvs++[(k,v)]
theorem En {p:κ × V}{r:List (κ × V)}{k:κ}(e:p.1=k):Nf (p :: r) k=some p.2:=by simp [Nf,List.find?_cons,e]
theorem Eo {p:κ × V}{r:List (κ × V)}{k:κ}(e:¬ p.1=k):Nf (p :: r) k=Nf r k:=by simp [Nf,List.find?_cons,e]
theorem Oa (k:κ):∀ kvs:List (κ × V),(kvs.any λ kv=>decide (kv.1=k))=(Nf kvs k).isSome
 | []=>rfl
 | p :: r=>by
  rw [List.any_cons]
  by_cases e:p.1=k
  ·simp only [En e,decide_eq_true e,Bool.true_or,Option.isSome_some]
  ·rw [Eo e,decide_eq_false e,Bool.false_or];exact Oa k r
theorem Aap (k j:κ) (y:V):∀ kvs:List (κ × V),Nf (kvs.map λ kv=>if kv.1=k then (kv.1,y) else kv) j=(Nf kvs j).map λ x=>if j=k then y else x
 | []=>rfl
 | p :: r=>by
  have ih:=Aap k j y r
  rw [List.map_cons]
  by_cases h:p.1=k
  ·rw [if_pos h]
   by_cases e:p.1=j
   ·rw [En (p:=(p.1,y)) e,En e,Option.map_some,if_pos (e.symm.trans h)]
   ·rw [Eo (p:=(p.1,y)) e,Eo e,ih]
  ·rw [if_neg h]
   by_cases e:p.1=j
   ·rw [En (p:=p) e,En e,Option.map_some,if_neg (λ z=>h (e.trans z))]
   ·rw [Eo (p:=p) e,Eo e,ih]
theorem Xa (k j:κ) (y:V):∀ kvs:List (κ × V),Nf kvs k=none->Nf (kvs++[(k,y)]) j=if j=k then some y else Nf kvs j
 | [],_=>by
  by_cases e:k=j
  ·rw [if_pos e.symm];exact En (p:=(k,y)) e
  ·rw [if_neg (λ z=>e z.symm)];exact Eo (p:=(k,y)) e
 | p :: r,hn=>by
  rw [List.cons_append]
  have hk:¬ p.1=k:=λ z=>by rw [En z] at hn;cases hn
  rw [Eo hk] at hn
  have ih:=Xa k j y r hn
  by_cases e:p.1=j
  ·rw [En e,En e,if_neg (λ z=>hk (e.trans z))]
  ·rw [Eo e,Eo e,ih]
theorem Agj (kvs:List (κ × V)) (k j:κ) (y:V):Nf (putK kvs k y) j=if j=k then some y else Nf kvs j:=by
 unfold putK
 by_cases a:(kvs.any λ kv=>decide (kv.1=k))=true
 ·rw [if_pos a,Aap]
  rw [Oa] at a
  by_cases e:j=k
  ·obtain⟨x,hx⟩:=Option.isSome_iff_exists.mp a
   rw [if_pos e,e,hx,Option.map_some,if_pos rfl]
  ·rw [if_neg e]
   cases Nf kvs j with
   | none=>rfl
   | some x=>rw [Option.map_some,if_neg e]
 ·rw [if_neg a]
  refine Xa k j y kvs ?_
  rw [Oa] at a
  cases q:Nf kvs k with
  | none=>rfl
  | some x=>rw [q] at a;exact (a rfl).elim
theorem Jc (kvs:List (κ × V)) (k:κ) (v:V):(putK kvs k v).length<=kvs.length+1:=by
 unfold putK
 split
 ·rw [List.length_map];omega
 ·rw [List.length_append,List.length_cons,List.length_nil];omega
theorem Acp.isSome_eq {o:Option V}{u:Option Value}(r:Acp o u):o.isSome=u.isSome:=by
 cases o with
 | none=>cases u with
  | none=>rfl
  | some _=>exact (show False from r).elim
 | some _=>cases u with
  | none=>exact (show False from r).elim
  | some _=>rfl
theorem Acp.getD {o:Option V}{u:Option Value}{d:V}{d':Value}(r:Acp o u) (rd:RelV d d'):RelV (o.getD d) (u.getD d'):=by
 cases o with
 | none=>cases u with
  | none=>exact rd
  | some _=>exact (show False from r).elim
 | some _=>cases u with
  | none=>exact (show False from r).elim
  | some _=>exact r
theorem KV.val {kvs:List (κ × V)}{vs:List (κ × Value)}(r:KV kvs vs) (k:κ):Acp (Nf kvs k) (valueAt vs k):=by
 unfold KV at r
 induction r with
 | nil=>exact True.intro
 | @cons p q ps qs h t ih =>
  obtain⟨h1,h2⟩:=h
  by_cases e:p.1=k
  ·have e':q.1=k:=h1.symm.trans e
   have b:valueAt (q :: qs) k=some q.2:=by simp [valueAt,List.find?_cons,e']
   rw [En e,b];exact h2
  ·have e':¬ q.1=k:=λ z=>e (h1.trans z)
   have b:valueAt (q :: qs) k=valueAt qs k:=by simp [valueAt,List.find?_cons,e']
   rw [Eo e,b];exact ih
theorem KV.any {kvs:List (κ × V)}{vs:List (κ × Value)}(r:KV kvs vs) (k:κ):(kvs.any λ kv=>decide (kv.1=k))=vs.any λ kv=>decide (kv.1=k):=by
 unfold KV at r
 induction r with
 | nil=>rfl
 | cons h t ih=>rw [List.any_cons,List.any_cons,ih,h.1]
theorem KV.repl {kvs:List (κ × V)}{vs:List (κ × Value)}(r:KV kvs vs) (k:κ) {y:V}{u:Value}(ry:RelV y u) :
  KV (kvs.map λ kv=>if kv.1=k then (kv.1,y) else kv) (vs.map λ kv=>if kv.1=k then (kv.1,u) else kv):=by
 unfold KV at r ⊢
 induction r with
 | nil=>exact .nil
 | @cons p q ps qs h t ih =>
  rw [List.map_cons,List.map_cons]
  refine .cons ?_ ih
  obtain⟨h1,h2⟩:=h
  by_cases e:p.1=k
  ·rw [if_pos e,if_pos (h1.symm.trans e)];exact⟨h1,ry⟩
  ·rw [if_neg e,if_neg (λ z=>e (h1.trans z))];exact⟨h1,h2⟩
theorem KV.put {kvs:List (κ × V)}{vs:List (κ × Value)}(r:KV kvs vs) (k:κ) {y:V}{u:Value}(ry:RelV y u):KV (putK kvs k y) (stored vs k u):=by
 unfold putK stored
 rw [r.any k]
 by_cases e:(vs.any λ kv=>decide (kv.1=k))=true
 ·rw [if_pos e,if_pos e];exact r.repl k ry
 ·rw [if_neg e,if_neg e];exact Paired.snoc r ⟨rfl,ry⟩
theorem KV.length {kvs:List (κ × V)}{vs:List (κ × Value)}(r:KV kvs vs):kvs.length=vs.length:=Paired.length r
end
theorem Aco {P:Program}{w:World}{k:Key}{u:Value}(r:RelV (kV k) u):(Cr P w).is k u=true:=by
 cases k with
 | inl i=>obtain⟨t,e⟩:=(show ∃ t,u=Value.int i t from r);subst e;exact X7 P w i t
 | inr x=>obtain⟨t,e⟩:=(show ∃ t,u=Value.str x t from r);subst e;exact Xv P w x t
theorem Vs {P:Program}{w:World}:∀ {ks:List Key}{us:List Value},Vals (ks.map kV) us->ItemsAre (Cr P w) ks us
 | [],_,r=>by rw [List.map_nil] at r;cases r;exact .nil
 | k :: ks,_,r=>by
  rw [List.map_cons] at r
  cases r with
  | cons h t=>exact .cons (Aco h) (Vs t)
abbrev KT (H:Hp):List (List Key × V)->List (List Key × Addr × Value)->Prop:=Paired λ p q=>p.1=q.1/\H q.2.1=some (.tup (p.1.map kV))/\RelV p.2 q.2.2
theorem KT.val {H:Hp}{kvs:List (List Key × V)}{xs:List (List Key × Addr × Value)}(r:KT H kvs xs) (k:List Key):Acp (Nf kvs k) ((atKey xs k).map (·.2)):=by
 induction r with
 | nil=>exact True.intro
 | @cons p q ps qs h t ih =>
  obtain⟨h1,_,h2⟩:=h
  by_cases e:p.1=k
  ·have e':q.1=k:=h1.symm.trans e
   have b:atKey (q :: qs) k=some q.2:=by simp [atKey,List.find?_cons,e']
   rw [En e,b];exact h2
  ·have e':¬ q.1=k:=λ z=>e (h1.trans z)
   have b:atKey (q :: qs) k=atKey qs k:=by simp [atKey,List.find?_cons,e']
   rw [Eo e,b];exact ih
theorem KT.repl {H:Hp}{kvs:List (List Key × V)}{xs:List (List Key × Addr × Value)}(r:KT H kvs xs) (k:List Key) {y:V}{u:Value}(ry:RelV y u) :
  KT H (kvs.map λ kv=>if kv.1=k then (kv.1,y) else kv) (xs.map (putAt k u)):=by
 induction r with
 | nil=>exact .nil
 | @cons p q ps qs h t ih =>
  rw [List.map_cons,List.map_cons]
  refine .cons ?_ ih
  obtain⟨h1,h2,h3⟩:=h
  unfold putAt
  by_cases e:p.1=k
  ·rw [if_pos e,if_pos (h1.symm.trans e)];exact⟨h1,h2,ry⟩
  ·rw [if_neg e,if_neg (λ z=>e (h1.trans z))];exact⟨h1,h2,h3⟩
theorem KT.put {H:Hp}{kvs:List (List Key × V)}{xs:List (List Key × Addr × Value)}(r:KT H kvs xs) (k:List Key) {b:Addr}{y:V}{u:Value}(hb:H b=some (.tup (k.map kV))) (ry:RelV y u) :
  KT H (putK kvs k y) (storedH xs k b u):=by
 have e:(kvs.any λ kv=>decide (kv.1=k))=(atKey xs k).isSome:=by
  rw [Oa,(r.val k).isSome_eq,Option.isSome_map]
 unfold putK storedH
 rw [e]
 by_cases q:(atKey xs k).isSome=true
 ·rw [if_pos q,if_pos q];exact r.repl k ry
 ·rw [if_neg q,if_neg q];exact Paired.snoc r ⟨rfl,hb,ry⟩
theorem KT.keeps {H H':Hp}{kvs:List (List Key × V)}{xs:List (List Key × Addr × Value)}(r:KT H kvs xs) (ht:∀ b ys,H b=some (.tup ys)->H' b=some (.tup ys)):KT H' kvs xs :=
 Paired.mapP r λ _ _ z=>⟨z.1,ht _ _ z.2.1,z.2.2⟩
section
variable {P:Program}{w:World}{H:Hp}{h:Heap}{a:Addr}
theorem Aot {u:HO}(ok:HOk P w H h) (e:Rd H a u):Ea P w H h a u:=e.ok ok
theorem Xq {kvs:List (Key × V)}(ok:HOk P w H h) (e:Rd H a (.dK kvs)):kvs.length<=sizeLine/\(a == sysModules)=false/\∃ vs,KV kvs vs/\h.DictOf (Cr P w) a vs :=
 show Ea P w H h a (.dK kvs) from Aot ok e
theorem Atk {kvs:List (Key × V)}(ok:HOk P w H h) (e:H a=some (.dK kvs)):kvs.length<=sizeLine/\(a == sysModules)=false/\∃ vs,KV kvs vs/\h.DictOf (Cr P w) a vs:=Xq ok (.inl e)
theorem Oh {ks:List Key}(ok:HOk P w H h) (e:H a=some (.tup (ks.map kV))):(tupleKind (Cr P w)).is h ks a:=by
 obtain⟨_,its,r,o,h1,h2,n,h3⟩:=(show Ea P w H h a (.tup (ks.map kV)) from ok a _ e)
 exact⟨o,its.toArray,n,h1,h2,h3,by simpa using Vs r⟩
theorem Vd {kvs:List (List Key × V)}(ok:HOk P w H h) (e:Rd H a (.dT kvs)):kvs.length<=sizeLine/\(a == sysModules)=false ∧
  ∃ xs,KT H kvs xs/\h.DictOfH (tupleKind (Cr P w)) a xs:=by
 obtain⟨z,y,xs,r,o,es,ep,h1,h2,h3,h4,h5⟩:=(show Ea P w H h a (.dT kvs) from Aot ok e)
 refine⟨z,y,xs,r,o,es,ep,h1,h2,h3,h4,λ x hx=>?_,h5⟩
 have all:∀ {l:List (List Key × V)} {m:List (List Key × Addr × Value)},KT H l m->∀ x∈m,(tupleKind (Cr P w)).is h x.1 x.2.1:=by
  intro l m q
  induction q with
  | nil=>intro x hx;exact nomatch hx
  | @cons p q ps qs hq t ih =>
   intro x hx
   rcases List.mem_cons.mp hx with e|hx
   ·subst e
    exact Oh ok (by rw [<-hq.1];exact hq.2.1)
   ·exact ih x hx
 exact all r x hx
theorem Aoy {kvs:List (List Key × V)}(ok:HOk P w H h) (e:H a=some (.dT kvs)):kvs.length<=sizeLine/\(a == sysModules)=false ∧
  ∃ xs,KT H kvs xs/\h.DictOfH (tupleKind (Cr P w)) a xs:=Vd ok (.inl e)
end
def Xb (H:Hp) (a:Addr) (y:V) (r:Option V):Prop :=
 (∃ kvs k,Rd H a (.dK kvs)/\y=kV k/\r=Nf kvs k)\/∃ kvs k b,Rd H a (.dT kvs)/\y=.ref b/\H b=some (.tup (k.map kV))/\r=Nf kvs k
def Air (H:Hp) (a:Addr) (y v:V) (H':Hp):Prop :=
 (∃ kvs k,H a=some (.dK kvs)/\y=kV k/\kvs.length<sizeLine/\H'=upd H a (.dK (putK kvs k v))) ∨
 ∃ kvs k b,H a=some (.dT kvs)/\y=.ref b/\H b=some (.tup (k.map kV))/\kvs.length<sizeLine/\H'=upd H a (.dT (putK kvs k v))
theorem Xb.k {H:Hp}{a:Addr}{kvs:List (Key × V)}{k:Key}(e:H a=some (.dK kvs)):Xb H a (kV k) (Nf kvs k):=.inl ⟨kvs,k,.inl e,rfl,rfl⟩
theorem Air.k {H:Hp}{a:Addr}{kvs:List (Key × V)}{k:Key}{v:V}(e:H a=some (.dK kvs)) (hl:kvs.length<sizeLine):Air H a (kV k) v (upd H a (.dK (putK kvs k v))):=.inl ⟨kvs,k,e,rfl,hl,rfl⟩
theorem Air.t {H:Hp}{a b:Addr}{kvs:List (List Key × V)}{k:List Key}{v:V}(e:H a=some (.dT kvs)) (eb:H b=some (.tup (k.map kV))) (hl:kvs.length<sizeLine) :
  Air H a (.ref b) v (upd H a (.dT (putK kvs k v))):=.inr ⟨kvs,k,b,e,rfl,eb,hl,rfl⟩
section
variable {X:Cx}{pins:List (Addr × Obj)}{σ:St}{H:Hp}{s:Shared}{a:Addr}{y v:V}{u r:Value}{o:Option V}{A:Around}{E:Value->Shared->Prop}
theorem Inv.big (I:Inv X pins σ H s):sysModules<s.heap.objs.size:=by
 have h:mainGlobals<s.heap.objs.size:=(I.mod.glob.keeps I.bk).lt
 exact Nat.lt_trans (by decide) h
theorem Afu {Q:Value->Shared->Prop}(hu:A.units+1<cLine) (I:Inv X pins σ H s) (g:Xb H a y (some v)) (ry:RelV y u) (h:∀ w' s',Inv X pins σ H s'->RelV v w'->Q w' s') :
  wpAny (model X.prog X.w) A (getItem (.ref a) u) Q E s:=by
 rcases g with ⟨kvs,k,e,ey,l⟩|⟨kvs,k,b,e,ey,eb,l⟩
 ·subst ey
  obtain⟨z,hd,vs,rel,dd⟩:=Xq I.hok e
  obtain⟨w',hw,rw'⟩:=Acp.some_of (v:=v) (o:=valueAt vs k) (by rw [l];exact rel.val k)
  exact wpAny_getItem_of (Aco ry) dd.mapOf hw (h w' _ (I.tok _) rw')
 ·subst ey
  cases (show u=Value.ref b from ry)
  obtain⟨z,hd,xs,rel,dd⟩:=Vd I.hok e
  obtain⟨w',hw,rw'⟩:=Acp.some_of (v:=v) (o:=(atKey xs k).map (·.2)) (by rw [l];exact rel.val k)
  obtain⟨p,hp,hp2⟩:=Option.map_eq_some_iff.mp hw
  refine wpAny_getItem_heap (tupleKind_room_in1 hu) (Oh I.hok eb) dd hp ?_
  rw [hp2]
  exact h w' _ (I.tok _) rw'
theorem Ayz {Q:Value->Shared->Prop}(hu:A.units+1<cLine) (I:Inv X pins σ H s) (g:Xb H a y o) (ry:RelV y u) (h:∀ s',Inv X pins σ H s'->Q (.bool o.isSome) s') :
  wpAny (model X.prog X.w) A (compareOp .In u (.ref a)) Q E s:=by
 rcases g with ⟨kvs,k,e,ey,l⟩|⟨kvs,k,b,e,ey,eb,l⟩
 ·subst ey
  obtain⟨z,hd,vs,rel,dd⟩:=Xq I.hok e
  refine wpAny_in_of (Aco ry) hd dd.mapOf ?_
  rw [<-(rel.val k).isSome_eq,<-l]
  exact h _ (I.tok _)
 ·subst ey
  cases (show u=Value.ref b from ry)
  obtain⟨z,hd,xs,rel,dd⟩:=Vd I.hok e
  refine wpAny_in_heap (tupleKind_room_in1 hu) (Oh I.hok eb) hd dd ?_
  have q:=(rel.val k).isSome_eq
  rw [Option.isSome_map] at q
  rw [<-q,<-l]
  exact h _ (I.tok _)
theorem Ak3 {Q:Value->Shared->Prop}(hu:A.units+1<cLine) (I:Inv X pins σ H s) (g:Xb H a y o) (ry:RelV y u) (h:∀ s',Inv X pins σ H s'->Q (.bool (!o.isSome)) s') :
  wpAny (model X.prog X.w) A (compareOp .NotIn u (.ref a)) Q E s:=by
 rcases g with ⟨kvs,k,e,ey,l⟩|⟨kvs,k,b,e,ey,eb,l⟩
 ·subst ey
  obtain⟨z,hd,vs,rel,dd⟩:=Xq I.hok e
  refine wpAny_notIn_of (Aco ry) hd dd.mapOf ?_
  rw [<-(rel.val k).isSome_eq,<-l]
  exact h _ (I.tok _)
 ·subst ey
  cases (show u=Value.ref b from ry)
  obtain⟨z,hd,xs,rel,dd⟩:=Vd I.hok e
  refine wpAny_notIn_heap (tupleKind_room_in1 hu) (Oh I.hok eb) hd dd ?_
  have q:=(rel.val k).isSome_eq
  rw [Option.isSome_map] at q
  rw [<-q,<-l]
  exact h _ (I.tok _)
theorem Yw {h':Heap}{t':Nat}{ob:HO}(I:Inv X pins σ H s) (mu:Mut (H a)) (hs:Heap.SameBut a s.heap h') (he:∃ q,h'.get? a=some q) (new:Ea X.prog X.w (upd H a ob) h' a ob) :
  Inv X pins σ (upd H a ob) { s with heap:=h',toks:=t' } :=
 I.write (x:=a) (e:=a) mu (.inl rfl) (λ b q hb z=>(hs.2 b hb).trans z) he new
theorem Aqe {P:Program}{w:World}{H':Hp}{h':Heap}{kvs:List (Key × V)}{vs:List (Key × Value)}(z:kvs.length<=sizeLine) (hd:(a == sysModules)=false) (rel:KV kvs vs) (dd:h'.DictOf (Cr P w) a vs) :
  Ea P w H' h' a (.dK kvs):=⟨z,hd,vs,rel,dd⟩
theorem Adc {H':Hp}{Q:Unit->Shared->Prop}(hu:A.units+1<cLine) (I:Inv X pins σ H s) (g:Air H a y v H') (ry:RelV y u) (rv:RelV v r) (h:∀ s',Inv X pins σ H' s'->Q () s') :
  wpAny (model X.prog X.w) A (setItem (.ref a) u r) Q E s:=by
 rcases g with ⟨kvs,k,e,ey,l,eH⟩|⟨kvs,k,b,e,ey,eb,l,eH⟩
 ·subst ey eH
  obtain⟨z,hd,vs,rel,dd⟩:=Atk I.hok e
  have hz:vs.length<=sizeLine:=by rw [<-rel.length];exact z
  have hl:(putK kvs k v).length<=sizeLine:=by have:=Jc kvs k v;omega
  refine wpAny_setItem_pairs (hsz:=hz) (Aco ry) dd λ h' dd' hs=>h _ ?_
  have he:∃ q,h'.get? a=some q:=let ⟨q,_,_,hq,_⟩:=dd';⟨q,hq⟩
  exact Yw I (by rw [e];exact True.intro) hs he (Aqe hl hd (rel.put k rv) dd')
 ·subst ey eH
  cases (show u=Value.ref b from ry)
  obtain⟨z,hd,xs,rel,dd⟩:=Aoy I.hok e
  have hz:xs.length<=sizeLine:=by rw [<-Paired.length rel];exact z
  have hl:(putK kvs k v).length<=sizeLine:=by have:=Jc kvs k v;omega
  refine wpAny_setItem_heap (hsz:=hz) (tupleKind_room_in1 hu) (Oh I.hok eb) dd λ h' dd' hs=>h _ ?_
  obtain⟨q,es,ep,hq,h2,h3,h4,_,h5⟩:=dd'
  refine Yw I (by rw [e];exact True.intro) hs ⟨q,hq⟩ ⟨hl,hd,_,(rel.put k eb rv).keeps λ c ys ec=>?_,q,es,ep,hq,h2,h3,h4,h5⟩
  rw [Al (Nv ec e (λ z=>nomatch z))]
  exact ec
end
section
variable {X:Cx}{pins:List (Addr × Obj)}{σ:St}{H:Hp}{s:Shared}{a:Addr}{kvs:List (Key × V)}{k:Key}{u:Value}{A:Around}{E:Value->Shared->Prop}
end
def Arc (i:Expr):Prop:=∀ ov iv,subscripted i false ov iv=operate [ov,iv] (getItem ov iv)
theorem Aj6 {prog:Program}{w:World}{A:Around}{E:Value->Shared->Prop}{s:Shared}{env:Env}{value slice:Expr}{pos:Pos}{T id:String}{Q:Value->Shared->Prop}
  (hl:typeLookup (.type T) "__getitem__"=pure (some (.builtin id))) (hs:Arc slice)
  (h:wpAny (model prog w) A (eval value env) (λ o s₁=>wpAny (model prog w) A (eval slice env) (λ i s₂=>s₂.TypeIs o T/\wpAny (model prog w) A (getItem o i) Q E s₂) E s₁) E s) :
  wpAny (model prog w) A (eval (.Subscript value slice pos) env) Q E s:=by
 refine Subscript_ (wpAny_mono h (λ o s₁ h₁=>wpAny_mono h₁ (λ i s₂ h₂=>?_) λ _ _ x=>x) λ _ _ x=>x)
 obtain⟨hT,h₂⟩:=h₂
 unfold subscriptTail
 refine wpAny_bind ?_
 rw [getitemInPython_of_ne hT.not_modules]
 refine wpAny_bind (wpAny_specialOf hT hl ?_)
 have fin:wpAny (model prog w) A (subscripted slice false o i) (λ r s₃=>wpAny (model prog w) A (letTemporaryGo value o r >>= λ _=>pure r) Q E s₃) E s₂:=by
  rw [hs o i]
  exact wpAny_operating (wpAny_mono h₂ (λ r s₃ h₃=>wpAny_bind (wpAny_letTemporaryGo (wpAny_pure h₃))) λ _ _ x=>x)
 first
  | exact wpAny_pure (wpAny_bind fin)
  | exact wpAny_bind (wpAny_pure (wpAny_bind fin))
  | exact wpAny_bind fin
theorem Yc {X:Cx}{pins:List (Addr × Obj)}{σ:St}{H:Hp}{s:Shared}{a:Addr}{y:V}{o:Option V}(I:Inv X pins σ H s) (g:Xb H a y o):s.TypeIs (.ref a) "dict":=by
 rcases g with ⟨kvs,k,e,_,_⟩|⟨kvs,k,b,e,_,_,_⟩
 ·obtain⟨_,_,vs,_,dd⟩:=Xq I.hok e
  exact dd.typeIs
 ·obtain⟨_,_,xs,_,dd⟩:=Vd I.hok e
  exact dd.typeIs
noncomputable def Amt (td ty:TE):TE:=λ σ H Q=>td σ H λ x H1=>ty σ H1 λ y H2=>∃ a v,x=.ref a/\Xb H2 a y (some v)/\Q v H2
noncomputable def Aur (ty td:TE):TE:=λ σ H Q=>ty σ H λ y H1=>td σ H1 λ x H2=>∃ a o,x=.ref a/\Xb H2 a y o/\Q (.bl o.isSome) H2
noncomputable def Yz (ty td:TE):TE:=λ σ H Q=>ty σ H λ y H1=>td σ H1 λ x H2=>∃ a o,x=.ref a/\Xb H2 a y o/\Q (.bl (!o.isSome)) H2
noncomputable def Apn (td ty tv:TE):TS:=λ D σ H=>tv σ H λ v H1=>td σ H1 λ x H2=>ty σ H2 λ y H3=>∃ a H4,x=.ref a/\Air H3 a y v H4/\D.nx σ H4
section
variable {X:Cx}{o i e value:Expr}{pos pos' tpos:Pos}{td ty tv:TE}
theorem Yn (hu:X.A.units+1<cLine) (ho:PE X o td) (hi:PE X i ty) (hs:Arc i):PE X (.Subscript o i pos) (Amt td ty):=by
 intro pins s σ H Q I h
 refine Aj6 PySem.F.slot_dict_getitem.lookup hs (thn (ho pins s σ H _ I h) λ u s1 ⟨x,H1,I1,rx,q1⟩=>thn (hi pins s1 σ H1 _ I1 q1) ?_)
 rintro iv s2 ⟨y,H2,I2,ry,a,v,ex,g,q2⟩
 subst ex
 obtain rfl:u=Value.ref a:=rx
 exact⟨Yc I2 g,Afu hu I2 g ry λ w' s3 I3 rw'=>⟨v,H2,I3,rw',q2⟩⟩
theorem Aja (hu:X.A.units+1<cLine) (hi:PE X i ty) (ho:PE X o td):PC X .In i o (Aur ty td):=by
 intro pins s σ H Q I h
 refine thn (hi pins s σ H _ I h) λ iv s1 ⟨y,H1,I1,ry,q1⟩=>thn (ho pins s1 σ H1 _ I1 q1) ?_
 rintro u s2 ⟨x,H2,I2,rx,a,ov,ex,g,q2⟩
 subst ex
 obtain rfl:u=Value.ref a:=rx
 exact Ayz hu I2 g ry λ s3 I3=>⟨.bl ov.isSome,H2,I3,rfl,q2⟩
theorem Ql (hu:X.A.units+1<cLine) (hi:PE X i ty) (ho:PE X o td):PC X .NotIn i o (Yz ty td):=by
 intro pins s σ H Q I h
 refine thn (hi pins s σ H _ I h) λ iv s1 ⟨y,H1,I1,ry,q1⟩=>thn (ho pins s1 σ H1 _ I1 q1) ?_
 rintro u s2 ⟨x,H2,I2,rx,a,ov,ex,g,q2⟩
 subst ex
 obtain rfl:u=Value.ref a:=rx
 exact Ak3 hu I2 g ry λ s3 I3=>⟨.bl (!ov.isSome),H2,I3,rfl,q2⟩
theorem Uu (hu:X.A.units+1<cLine) (ho:PE X o td) (hi:PE X i ty) (hv:PE X value tv) (hs:swapsWith value (some (.Subscript o i pos')) pos.line X.env=pure false) :
  PS X (.Assign [.Subscript o i pos'] value pos) (Apn td ty tv):=by
 intro pins s σ H D I h
 refine wpAny_Assign_Subscript (thn (hv pins s σ H _ I h) λ r s1 ⟨v,H1,I1,rv,q1⟩=>thn (ho pins s1 σ H1 _ I1 q1) λ u s2 ⟨x,H2,I2,rx,q2⟩=>thn (hi pins s2 σ H2 _ I2 q2) ?_) hs
 rintro iv s3 ⟨y,H3,I3,ry,a,H4,ex,g,q3⟩
 subst ex
 obtain rfl:u=Value.ref a:=rx
 exact Adc hu I3 g ry rv λ s4 I4=>⟨σ,H4,I4,q3⟩
end
theorem Ahp {P:Program}{w:World}{H:Hp}(h:Heap) (hb:sysModules<h.objs.size):Ea P w H (h.push { cls:=.type "dict",data:=.dict #[] }) h.objs.size (.dK []) :=
 ⟨Nat.zero_le _,beq_eq_false_iff_ne.mpr (Ne.symm (Nat.ne_of_lt hb)),[],.nil,Heap.DictOf.new h⟩
theorem S6 {P:Program}{w:World}{H:Hp}(h:Heap) (hb:sysModules<h.objs.size):Ea P w H (h.push { cls:=.type "dict",data:=.dict #[] }) h.objs.size (.dT []) :=
 ⟨Nat.zero_le _,beq_eq_false_iff_ne.mpr (Ne.symm (Nat.ne_of_lt hb)),[],.nil,_,#[],0,Heap.get?_push_size _ rfl,⟨rfl,rfl,rfl⟩,rfl,rfl,List.nodup_nil⟩
noncomputable def Ae6:TE:=λ _ H Q=>∀ p,H p=none->Q (.ref p) (upd H p (.dK []))
noncomputable def Ap8:TE:=λ _ H Q=>∀ p,H p=none->Q (.ref p) (upd H p (.dT []))
section
variable {X:Cx}{pos:Pos}
theorem Te:PE X (.Dict [] [] pos) Ae6:=λ pins s σ H Q I h =>
 wpAny_Dict_empty ⟨.ref s.heap.objs.size,_,I.laid (a:=s.heap.objs.size) (o:=.dK []) (t':=s.toks) (λ _ _ q=>Heap.get?_push_of_some _ q) (Nat.le_refl _) (Ahp s.heap I.big),rfl,h _ (I.hok.fresh (Nat.le_refl _))⟩
theorem Ah8:PE X (.Dict [] [] pos) Ap8:=λ pins s σ H Q I h =>
 wpAny_Dict_empty ⟨.ref s.heap.objs.size,_,I.laid (a:=s.heap.objs.size) (o:=.dT []) (t':=s.toks) (λ _ _ q=>Heap.get?_push_of_some _ q) (Nat.le_refl _) (S6 s.heap I.big),rfl,h _ (I.hok.fresh (Nat.le_refl _))⟩
end
def Afr:List (TE × TE)->St->Hp->(List (V × V)->Hp->Prop)->Prop
 | [],_,H,Q=>Q [] H
 | (tk,tv) :: r,σ,H,Q=>tk σ H λ x H1=>tv σ H1 λ y H2=>Afr r σ H2 λ ps H3=>Q ((x,y) :: ps) H3
abbrev VV:List (V × V)->List (Value × Value)->Prop:=Paired λ p q=>RelV p.1 q.1/\RelV p.2 q.2
def PPs (X:Cx) (pos:Pos) (keys:List (Option Expr)) (values:List Expr) (trs:List (TE × TE)):Prop :=
 ∀ (pins:List (Addr × Obj)) (s:Shared) (σ:St) (H:Hp) (Q:List (V × V)->Hp->Prop),Inv X pins σ H s->Afr trs σ H Q →
  wpAny (model X.prog X.w) X.A (evalPairs (pairTrees keys values X.env pos)) (λ vs s'=>∃ ps H',Inv X pins σ H' s'/\VV ps vs/\Q ps H') X.xe s
theorem Akz {X:Cx}{pos:Pos}:PPs X pos [] [] []:=λ pins s σ H Q I h=>pairTrees_nil_walk ⟨[],H,I,.nil,h⟩
theorem Agn {X:Cx}{pos:Pos}{k v:Expr}{ks:List (Option Expr)}{vs:List Expr}{tk tv:TE}{trs:List (TE × TE)}(hk:PE X k tk) (hv:PE X v tv) (hr:PPs X pos ks vs trs) :
  PPs X pos (some k :: ks) (v :: vs) ((tk,tv) :: trs):=λ pins s σ H Q I h =>
 pairTrees_cons_walk (thn (hk pins s σ H _ I h) λ u s1 ⟨x,H1,I1,rx,q1⟩=>thn (hv pins s1 σ H1 _ I1 q1) λ w2 s2 ⟨y,H2,I2,ry,q2⟩ =>
  thn (hr pins s2 σ H2 _ I2 q2) λ ws s3 ⟨ps,H3,I3,rel,q3⟩=>⟨(x,y) :: ps,H3,I3,.cons ⟨rx,ry⟩ rel,q3⟩)
structure M1 (X:Cx) (o:Expr) (m:Str) (apos:Pos) (e:Expr) (cpos:Pos):Prop where
 base:attributeBase o m X.env (eval o X.env)=eval o X.env
 few:((backTo cpos (starEach [e] X.env)).all (λ x=>!x.1) && (backToKw cpos (keywordEach [] X.env)).all (λ x=>x.1.isSome)
  && decide (([e]:List Expr).length+([]:List Keyword).length+(if ([]:List Keyword).isEmpty then 0 else 1)<30))=true
 line:(apos.endLine == cpos.line)=true
 trees:backTo cpos (starEach [e] X.env)=[(false,eval e X.env)]
structure M2 (X:Cx) (o:Expr) (m:Str) (apos:Pos) (e f:Expr) (cpos:Pos):Prop where
 base:attributeBase o m X.env (eval o X.env)=eval o X.env
 few:((backTo cpos (starEach [e,f] X.env)).all (λ x=>!x.1) && (backToKw cpos (keywordEach [] X.env)).all (λ x=>x.1.isSome)
  && decide (([e,f]:List Expr).length+([]:List Keyword).length+(if ([]:List Keyword).isEmpty then 0 else 1)<30))=true
 line:(apos.endLine == cpos.line)=true
 trees:backTo cpos (starEach [e,f] X.env)=[(false,eval e X.env),(false,eval f X.env)]
def IsD (H:Hp) (a:Addr):Prop:=(∃ kvs,Rd H a (.dK kvs))\/∃ kvs,Rd H a (.dT kvs)
theorem Apy {X:Cx}{pins:List (Addr × Obj)}{σ:St}{H:Hp}{s:Shared}{a:Addr}(I:Inv X pins σ H s) (d:IsD H a) :
  s.TypeIs (.ref a) "dict"/\(∀ b,Value.ref a=.ref b->∃ ob,s.heap.get? b=some ob/\ob.dict=none)/\(a == sysModules)=false:=by
 rcases d with ⟨kvs,e⟩|⟨kvs,e⟩
 ·obtain⟨_,hd,vs,_,dd⟩:=Xq I.hok e
  refine⟨dd.typeIs,λ b q=>?_,hd⟩
  cases q
  obtain⟨ob,_,_,h1,h2,_⟩:=dd
  exact⟨ob,h1,h2.2.1⟩
 ·obtain⟨_,hd,xs,_,dd⟩:=Vd I.hok e
  refine⟨dd.typeIs,λ b q=>?_,hd⟩
  cases q
  obtain⟨ob,_,_,h1,h2,_⟩:=dd
  exact⟨ob,h1,h2.2.1⟩
section
variable {X:Cx}{pins:List (Addr × Obj)}{σ:St}{H:Hp}{s:Shared}{a:Addr}{y d:V}{u r:Value}{o:Option V}{A:Around}{E:Value->Shared->Prop}
theorem Ao7 {Q:Value->Shared->Prop}(hu:A.units+1<cLine) (I:Inv X pins σ H s) (g:Xb H a y o) (ry:RelV y u) (rd:RelV d r) (h:∀ w' s',Inv X pins σ H s'->RelV (o.getD d) w'->Q w' s') :
  wpAny (model X.prog X.w) A (call (.builtin "dict.get") [.ref a,u,r]) Q E s:=by
 rcases g with ⟨kvs,k,e,ey,l⟩|⟨kvs,k,b,e,ey,eb,l⟩
 ·subst ey
  obtain⟨z,hd,vs,rel,dd⟩:=Xq I.hok e
  refine call_meetsIn PySem.F.slot_dict_get dd.typeIs PySem.F.entry_dict_get (PySem.F.args_dict_get_3 _ _ _) (meets_dict_get_default (Cr X.prog X.w) a (Aco ry) hd r) ⟨_,dd.mapOf,h _ _ (I.tok _) ?_⟩
  rw [l]
  exact (rel.val k).getD rd
 ·subst ey
  cases (show u=Value.ref b from ry)
  obtain⟨z,hd,xs,rel,dd⟩:=Vd I.hok e
  refine call_meetsIn PySem.F.slot_dict_get dd.typeIs PySem.F.entry_dict_get (PySem.F.args_dict_get_3 _ _ _) (meetsH_dict_get_default (tupleKind (Cr X.prog X.w)) a b hd r) ⟨tupleKind_room_in1 hu,k,xs,Oh I.hok eb,dd,h _ _ (I.tok _) ?_⟩
  rw [l]
  exact (rel.val k).getD rd
end
noncomputable def Ap2 (td ty tx:TE):TE:=λ σ H Q=>td σ H λ x H1=>∃ a,x=.ref a/\IsD H1 a/\ty σ H1 λ y H2=>tx σ H2 λ z H3=>∃ o,Xb H3 a y o/\Q (o.getD z) H3
section
variable {X:Cx}{o e f:Expr}{apos cpos:Pos}{td ty tx:TE}
theorem Ahj (hu:X.A.units+1<cLine) (ho:PE X o td) (he:PE X e ty) (hf:PE X f tx) (m:M2 X o "get" apos e f cpos):PE X (.Call (.Attribute o "get" apos) [e,f] [] cpos) (Ap2 td ty tx):=by
 intro pins s σ H Q I h
 refine wpAny_Call_method m.base m.few m.line PySem.F.plainAttrs_dict PySem.F.slot_dict_get PySem.F.type_dict_get (thn (ho pins s σ H _ I h) ?_)
 rintro u s1 ⟨x,H1,I1,rx,a,ex,d,q1⟩
 subst ex
 obtain rfl:u=Value.ref a:=rx
 obtain⟨t1,t2,_⟩:=Apy I1 d
 refine⟨t1,t2,?_⟩
 rw [m.trees]
 refine Calls.callWith_builtin rfl (Calls.evalArgs_plain (Calls.spliced_cons (thn (he pins s1 σ H1 _ I1 q1) λ iv s2 ⟨y,H2,I2,ry,q2⟩ =>
  Calls.spliced_cons (thn (hf pins s2 σ H2 _ I2 q2) λ fv s3 ⟨z,H3,I3,rz,ov,g,q3⟩=>Calls.spliced_nil ?_))))
 exact Ao7 hu I3 g ry rz λ w' s4 I4 rw'=>⟨_,H3,I4,rw',q3⟩
end
section
variable {X:Cx}{pins:List (Addr × Obj)}{σ:St}{H:Hp}{s:Shared}{a:Addr}{kvs:List (Key × V)}{A:Around}{E:Value->Shared->Prop}
end
section
variable {X:Cx}{pins:List (Addr × Obj)}{σ:St}{H:Hp}{s:Shared}{a:Addr}{y:V}{u:Value}{A:Around}{E:Value->Shared->Prop}
end
end L2
namespace HT
open PySem PyProof.Rows
noncomputable def lexLt:List Int->List Int->Bool
 | [],[]=>false
 | [],_ :: _=>true
 | _ :: _,[]=>false
 | x :: xs,y :: ys=>if x=y then lexLt xs ys else decide (x<y)
theorem lexLt_cons (x y:Int) (xs ys:List Int):lexLt (x :: xs) (y :: ys)=if x=y then lexLt xs ys else decide (x<y):=rfl
theorem lexLt_nil_nil:lexLt [] []=false:=rfl
theorem lexLt_nil_cons (y:Int) (ys:List Int):lexLt [] (y :: ys)=true:=rfl
theorem lexLt_cons_nil (x:Int) (xs:List Int):lexLt (x :: xs) []=false:=rfl
theorem eqAt_int (A:Around) (s:Shared) (a:Int) (t:Tok) (c:Int) (u:Tok):∃ e,SeqAt.EqAt A s (.int a t) (.int c u) e/\(e=true ↔ a=c) :=
 ⟨(a == c),SeqAt.EqAt.int_int a t c u,by simp⟩
theorem Aig (A:Around) (s:Shared) (a:Int) (t:Tok) (c:Int) (u:Tok) (prog:Program) (w:World) (E:Value->Shared->Prop) (Q:Value->Shared->Prop) (h:Q (.bool (decide (a<c))) s) :
  wpAny (model prog w) A (richCompare .Lt (.int a t) (.int c u)) Q E s :=
 (PyProof.Rows.lt_int h:wpAny (model prog w) A (compareOp .Lt (.int a t) (.int c u)) Q E s)
section
open PySem.SeqAt
open PySem.AutoSeq1 (wpAny_loadPart')
open PySem.MeetsSeq PySem.MeetsSeq2 PySem.MeetsSeq3
theorem Ti (l b:Addr) (items items2:Array Value) (n n2:Nat) (dd dd2:Option Addr) (sl sl2:Array (Option Value)) (ns ms:List Int) (hi:IntsAre items.toList ns) (hj:IntsAre items2.toList ms) :
  Meets (Builtin.«tuple.__lt__» ⟨[.ref l,.ref b],[]⟩)
   (λ _ R s=>s.heap.get? l=some { cls:=.type "tuple",dict:=dd,data:=.seq items n,slots:=sl }/\s.heap.get? b=some { cls:=.type "tuple",dict:=dd2,data:=.seq items2 n2,slots:=sl2 } ∧
    R (.ok (.ret (.bool (lexLt ns ms)))) s) :=
 .of_wp λ prog w A R s h=>by
  obtain⟨hp,g,d,tk,os⟩:=s;obtain⟨hl,hb,h⟩:=h
  have f2:=AutoSeq1.sub_tuple_tuple
  have z1:items.size=ns.length:=by rw [<-hi.length];simp
  have z2:items2.size=ms.length:=by rw [<-hj.length];simp
  wp_walk using wpAny_loadPart' hl,wpAny_loadPart' hb,wpAny_forIn_list _ (λ rest b s'=>b.1=none/\s'=⟨hp,g,d,tk,os⟩/\∃ (vs ws:List Value) (ns' ms':List Int),rest=vs.zip ws ∧
   IntsAre vs ns'/\IntsAre ws ms'/\ns'.length+items2.size=ms'.length+items.size/\R (.ok (.ret (.bool (lexLt ns' ms')))) ⟨hp,g,d,tk,os⟩) _
  case turn =>
   rintro⟨y,x⟩ rest b s' ⟨hb',rfl,vs,ws,ns',ms',hz,hvi,hwi,hlen,hR⟩
   cases hvi with
   | nil=>rw [List.zip_nil_left] at hz;cases hz
   | cons a t hvi' =>
    cases hwi with
    | nil=>rw [List.zip_nil_right] at hz;cases hz
    | cons c u hwi' =>
     rw [List.zip_cons_cons] at hz
     injection hz with hyx hrest
     injection hyx with hy hx
     subst hy hx
     rw [lexLt_cons] at hR
     simp only [List.length_cons] at hlen
     obtain⟨e,he,hiff⟩:=eqAt_int A.in1 ⟨hp,g,d,tk,os⟩ a t c u
     refine wpAny_bind (he prog w _ _ ?_)
     cases e with
     | true =>
      rw [if_pos (hiff.mp rfl)] at hR
      wp_walk
      exact⟨rfl,rfl,_,_,_,_,hrest,hvi',hwi',by omega,hR⟩
     | false =>
      rw [if_neg (λ q=>absurd (hiff.mpr q) Bool.false_ne_true)] at hR
      have hri:=Aig A.in1 ⟨hp,g,d,tk,os⟩ a t c u prog w
      wp_walk using hri
      exact⟨_,rfl,by simpa using hR⟩
  case fin =>
   rintro⟨b1,b2⟩ s' ⟨hb',rfl,vs,ws,ns',ms',hz,hvi,hwi,hlen,hR⟩
   simp only at hb'
   subst hb'
   have hv:lexLt ns' ms'=decide (items.size<items2.size):=by
    cases hvi with
    | nil =>
     cases hwi with
     | nil =>
      simp only [List.length_nil] at hlen
      rw [lexLt_nil_nil]
      exact (decide_eq_false (by omega)).symm
     | cons c u hw =>
      simp only [List.length_nil,List.length_cons] at hlen
      rw [lexLt_nil_cons]
      exact (decide_eq_true (by omega)).symm
    | cons a t hv =>
     cases hwi with
     | nil =>
      simp only [List.length_nil,List.length_cons] at hlen
      rw [lexLt_cons_nil]
      exact (decide_eq_false (by omega)).symm
     | cons c u hw =>
      rw [List.zip_cons_cons] at hz
      cases hz
   rw [hv] at hR
   wp_walk
   exact⟨_,rfl,by simpa [Builtin.Tuple.tupleCompareSizes] using hR⟩
  case h =>
   exact⟨rfl,rfl,items.toList,items2.toList,ns,ms,rfl,hi,hj,by omega,h⟩
end
section
variable {prog:Program}{w:World}{A:Around}{E:Value->Shared->Prop}{s:Shared}
theorem lt_tupInts {l b:Addr}{items items2:Array Value}{ns ms:List Int}{Q:Value->Shared->Prop}(hl:IsTup s.heap l items) (hb:IsTup s.heap b items2) (hi:IntsAre items.toList ns) (hj:IntsAre items2.toList ms)
  (hu:A.units<cLine) (h:Q (.bool (lexLt ns ms)) s):wpAny (model prog w) A (compareOp .Lt (.ref l) (.ref b)) Q E s:=by
 obtain⟨⟨cls,dd,data,sl⟩,ho,hc,n,hd⟩:=id hl
 obtain⟨⟨cls2,dd2,data2,sl2⟩,ho2,hc2,n2,hd2⟩:=id hb
 simp only at hc hd hc2 hd2
 subst hc hd hc2 hd2
 exact richCompare_meets_room (op:=.Lt) ⟨_,ho,rfl⟩ ⟨_,ho2,rfl⟩ PySem.F.slot_tuple_lt PySem.F.entry_tuple_lt (PySem.F.args_tuple_lt_2 _ _) (Ti l b items items2 n n2 dd dd2 sl sl2 ns ms hi hj)
  ⟨ho,ho2,show Value.bool (lexLt ns ms)≠Value.notImplemented/\Q (.bool (lexLt ns ms)) s from ⟨(λ x=>nomatch x),h⟩⟩ hu
theorem cat_tup {t b:Addr}{vs ws:List Value}{Q:Value->Shared->Prop}(ht:IsTup s.heap t vs.toArray) (hb:IsTup s.heap b ws.toArray) (hv:vs≠[])
  (h1:ws=[]->Q (.ref t) s) (h2:ws≠[]->Q (.ref s.heap.objs.size) { s with heap:=s.heap.push { cls:=.type "tuple",data:=.seq (vs++ws).toArray } })
  (hsz:vs.length+ws.length<=sizeLine):wpAny (model prog w) A (binaryOp .Add (.ref t) (.ref b)) Q E s:=by
 obtain⟨⟨cls,dd,data,sl⟩,ho,hc,n,hd⟩:=id ht
 obtain⟨⟨cls2,dd2,data2,sl2⟩,ho2,hc2,n2,hd2⟩:=id hb
 simp only at hc hd hc2 hd2
 subst hc hd hc2 hd2
 have e:vs.toArray++ws.toArray=(vs++ws).toArray:=by simp
 by_cases hw:ws=[]
 ·exact concat_meets ⟨_,ho,rfl⟩ ⟨_,ho2,rfl⟩ noFill_tuple_add seq_tuple_add PySem.F.slot_tuple_add PySem.F.entry_tuple_add (PySem.F.args_tuple_add_2 _ _)
   (tuple_addW1 t b vs.toArray ws.toArray n n2 dd dd2 sl sl2 (by simpa using hv) (by simp [hw])) ⟨ho,ho2,h1 hw⟩
 ·refine concat_meets ⟨_,ho,rfl⟩ ⟨_,ho2,rfl⟩ noFill_tuple_add seq_tuple_add PySem.F.slot_tuple_add PySem.F.entry_tuple_add (PySem.F.args_tuple_add_2 _ _)
   (tuple_addW2 t b vs.toArray ws.toArray n n2 dd dd2 sl sl2 (by simpa using hv) (by simpa using hw) (by rw [List.size_toArray,List.size_toArray];exact hsz)) ⟨ho,ho2,?_⟩
  rw [e]
  exact h2 hw
noncomputable def sIx (n d:Nat):Option Int->Nat
 | none=>d
 | some v=>if v<0 then (v+(n:Int)).toNat else min v.toNat n
theorem sIx_none (n d:Nat):sIx n d none=d:=rfl
theorem sIx_nat (n d k:Nat):sIx n d (some (k:Int))=min k n:=by
 show (if (k:Int)<0 then ((k:Int)+(n:Int)).toNat else min (k:Int).toNat n)=min k n
 rw [if_neg (by omega),Int.toNat_natCast]
theorem Aqo (n d:Nat) (hd:d<=n) (o:Option Int):sIx n d o<=n:=by
 cases o with
 | none=>exact hd
 | some v =>
  show (if v<0 then (v+(n:Int)).toNat else min v.toNat n)<=n
  by_cases hv:v<0
  ·rw [if_pos hv];omega
  ·rw [if_neg hv];exact Nat.min_le_right _ _
theorem Ady (v:Int) (n d:Nat):(if v<0 then max (v+(n:Int)) 0 else min v (n:Int))=((sIx n d (some v):Nat):Int):=by
 show (if v<0 then max (v+(n:Int)) 0 else min v (n:Int))=(((if v<0 then (v+(n:Int)).toNat else min v.toNat n):Nat):Int)
 by_cases hv:v<0
 ·simp only [if_pos hv];omega
 ·simp only [if_neg hv];omega
theorem Abz (lo hi:Option Int) (n:Nat):Builtin.Slice.sliceAdjust lo hi 1 (n:Int)=(((sIx n 0 lo:Nat):Int),((sIx n n hi:Nat):Int)):=by
 have h1:¬ ((1:Int)<0):=by omega
 unfold Builtin.Slice.sliceAdjust
 simp only [h1,if_false]
 refine Prod.ext ?_ ?_
 ·cases lo with
  | none=>rfl
  | some v=>exact Ady v n 0
 ·cases hi with
  | none=>rfl
  | some v=>exact Ady v n n
theorem Aa2 (i j:Nat):Builtin.Slice.slicePlaces (i:Int) (j:Int) 1=j-i:=by
 unfold Builtin.Slice.slicePlaces
 have h1:(1:Int) > 0:=by omega
 simp only [h1,if_true,Int.ediv_one]
 split<;>omega
theorem Rv {v:Value}{o:Option Int}{Q:Option Int->Shared->Prop}(p:IsPart v o) (h:Q o s):wpAny (model prog w) A (Builtin.Slice.slicePartIndex v) Q E s:=by
 cases p with
 | none=>exact slicePart_none h
 | int i t=>exact slicePart_int h
theorem Nk {sl:Addr}{vl vu:Value}{lo hi:Option Int}{n:Nat}{Q:Int × Int × Nat->Shared->Prop}(hs:s.heap.IsSliceOf sl vl vu .none) (pl:IsPart vl lo) (pu:IsPart vu hi)
  (h:Q (((sIx n 0 lo:Nat):Int),1,sIx n n hi-sIx n 0 lo) s):wpAny (model prog w) A (Builtin.Slice.sliceApplied (.ref sl) (pure (n:Int))) Q E s:=by
 obtain⟨os,hos,hcs,hds⟩:=id hs
 unfold Builtin.Slice.sliceApplied Builtin.Slice.sliceFields
 refine wpAny_bind (wpAny_bind (wpAny_field hos hds (x:=vl) rfl (wpAny_bind (wpAny_field hos hds (x:=vu) rfl (wpAny_bind (wpAny_field hos hds (x:=.none) rfl (wpAny_pure ?_)))))))
 refine wpAny_bind (slicePart_none ?_)
 show wpAny _ _ (if ((1:Int) == 0)=true then _ else _) _ _ s
 rw [if_neg (by decide)]
 refine wpAny_bind (Rv pl (wpAny_bind (Rv pu (wpAny_bind (wpAny_pure ?_)))))
 show wpAny _ _ (match Builtin.Slice.sliceAdjust lo hi 1 (n:Int) with|(lo,hi)=>pure (lo,(1:Int),Builtin.Slice.slicePlaces lo hi 1)) _ _ s
 rw [Abz lo hi n]
 show wpAny _ _ (pure (((sIx n 0 lo:Nat):Int),(1:Int),Builtin.Slice.slicePlaces ((sIx n 0 lo:Nat):Int) ((sIx n n hi:Nat):Int) 1)) _ _ s
 rw [Aa2]
 exact wpAny_pure h
theorem Ag2 (xs:Array Value) (i k:Nat):((List.range k).filterMap λ (m:Nat)=>xs[((i:Int)+(m:Int) * 1).toNat]?).toArray=((xs.toList.drop i).take k).toArray:=by
 have e:(λ (m:Nat)=>xs[((i:Int)+(m:Int) * 1).toNat]?)=λ m=>xs[i+m]?:=by
  funext m
  have:((i:Int)+(m:Int) * 1).toNat=i+m:=by omega
  rw [this]
 rw [e]
 have:=pick_run xs i k
 rw [List.filterMap_map] at this
 have e2:((λ x=>xs[x]?) ∘ λ x=>i+x)=λ m=>xs[i+m]?:=rfl
 rw [e2] at this
 rw [this]
theorem getItem_tuple_cut {t sl:Addr}{items:Array Value}{vl vu:Value}{lo hi:Option Int}{Q:Value->Shared->Prop}(ht:IsTup s.heap t items) (hs:s.heap.IsSliceOf sl vl vu .none) (pl:IsPart vl lo) (pu:IsPart vu hi)
  (hw:¬ (sIx items.size 0 lo=0/\sIx items.size items.size hi=items.size))
  (h:Q (.ref s.heap.objs.size) { s with heap:=s.heap.push { cls:=.type "tuple",data:=.seq ((items.toList.drop (sIx items.size 0 lo)).take (sIx items.size items.size hi-sIx items.size 0 lo)).toArray } })
  (hsz:items.size<=sizeLine):wpAny (model prog w) A (getItem (.ref t) (.ref sl)) Q E s:=by
 have htake:sizeOk (.seq ((items.toList.drop (sIx items.size 0 lo)).take (sIx items.size items.size hi-sIx items.size 0 lo)).toArray):=by
  show ((items.toList.drop (sIx items.size 0 lo)).take (sIx items.size items.size hi-sIx items.size 0 lo)).toArray.size<=sizeLine
  rw [List.size_toArray,List.length_take,List.length_drop,Array.length_toList]
  omega (config:={})
 have hj:sIx items.size items.size hi<=items.size:=Aqo _ _ (Nat.le_refl _) hi
 obtain⟨os,hos,hcs,hds⟩:=id hs
 have hTs:s.TypeIs (.ref sl) "slice":=⟨os,hos,hcs⟩
 unfold getItem
 try with_reducible refine wpAny_holding ?_
 first|refine wpAny_bind (wpAny_pure ?_)|skip
 refine wpAny_bind (wpAny_sequenceKey ht.typeIs (by decide) ?_)
 refine wpAny_bind (wpAny_callSpecial?_slot (name:=Str.ofString "__getitem__") ht.typeIs PyProof.Rows.slot_tuple_getitem
  (wpAny_call_entry PyProof.Rows.slot_tuple_getitem ht.typeIs entry_tuple_getitem ?_ (args_tuple_getitem _ _)))
 show wpAny _ _ (Builtin.Tuple.tupleItemsOf (.ref t) >>= _) _ _ s
 refine wpAny_bind (tupleItemsOf_ ht ?_)
 refine wpAny_bind (wpAny_typeOf hTs ?_)
 rw [if_pos (by decide)]
 refine wpAny_bind (Nk hs pl pu ?_)
 have hno:¬ ((((sIx items.size 0 lo:Nat):Int) == 0 && (1:Int) == 1 && (sIx items.size items.size hi-sIx items.size 0 lo) == items.size)=true):=by
  intro q
  rw [Bool.and_eq_true,Bool.and_eq_true] at q
  have q1:((sIx items.size 0 lo:Nat):Int)=0:=eq_of_beq q.1.1
  have q2:sIx items.size items.size hi-sIx items.size 0 lo=items.size:=eq_of_beq q.2
  exact hw ⟨by omega (config:={}),by omega (config:={})⟩
 show wpAny _ _ (if (((sIx items.size 0 lo:Nat):Int) == 0 && (1:Int) == 1 && (sIx items.size items.size hi-sIx items.size 0 lo) == items.size)=true then _ else _) _ _ s
 rw [if_neg hno,Ag2]
 first
  | exact wpAny_bind (m:=Builtin.Tuple.tupleExact _) (wpAny_newObj_type (wpAny_pure ⟨_,rfl,wpAny_pure h⟩) htake)
  | exact wpAny_bind (m:=Builtin.Tuple.tupleExact _) (wpAny_newObj_type (wpAny_bind (wpAny_pure (wpAny_pure ⟨_,rfl,wpAny_pure h⟩))) htake)
  | exact wpAny_bind (wpAny_bind (m:=Builtin.Tuple.tupleExact _) (wpAny_newObj_type (wpAny_pure (wpAny_pure ⟨_,rfl,wpAny_pure h⟩)) htake))
  | exact wpAny_bind (wpAny_bind (m:=Builtin.Tuple.tupleExact _) (wpAny_newObj_type (wpAny_pure ⟨_,rfl,wpAny_pure h⟩) htake))
end
end HT
namespace L2
open PySem PySem.Spec PyProof.Rows
abbrev TO:=St->Hp->(Option Int->Hp->Prop)->Prop
def PO (X:Cx) (e:Option Expr) (t:TO):Prop :=
 ∀ (pins:List (Addr × Obj)) (s:Shared) (σ:St) (H:Hp) (Q:Option Int->Hp->Prop),Inv X pins σ H s->t σ H Q →
  wpAny (model X.prog X.w) X.A (evalPart e X.env) (λ u s'=>∃ o H',Inv X pins σ H' s'/\IsPart u o/\Q o H') X.xe s
noncomputable def Al0:TO:=λ _ H Q=>Q none H
noncomputable def Atm (t:TE):TO:=λ σ H Q=>t σ H λ x H1=>∃ i,x=.int i/\Q (some i) H1
theorem intsAre_of {ns:List Int}:∀ {us:List Value},Vals (ns.map V.int) us->IntsAre us ns:=by
 induction ns with
 | nil=>intro us r;rw [List.map_nil] at r;cases r;exact .nil
 | cons n ns ih =>
  intro us r
  rw [List.map_cons] at r
  cases r with
  | cons r1 r2 =>
   obtain⟨t,e⟩:=r1
   subst e
   exact .cons n t (ih r2)
section
variable {X:Cx}{e:Expr}{te:TE}{lo hi:Option Expr}{tl th:TO}{pos p2:Pos}
theorem Aj2:PO X none Al0:=by
 intro pins s σ H Q I h
 rw [evalPart_none]
 exact wpAny_pure ⟨none,H,I,.none,h⟩
theorem Alr (h:PE X e te):PO X (some e) (Atm te):=by
 intro pins s σ H Q I hw
 rw [evalPart_some]
 refine thn (h pins s σ H _ I hw) ?_
 rintro u s1 ⟨x,H1,I1,r1,q1⟩
 obtain⟨i,rfl,q⟩:=q1
 obtain⟨t,rfl⟩:=r1
 exact⟨some i,H1,I1,.int i t,q⟩
def SlR (X:Cx) (r:V->Option Int->Option Int->Hp->VK->Prop):Prop :=
 ∀ (pins:List (Addr × Obj)) (s:Shared) (σ:St) (H:Hp) (x:V) (v vl vu:Value) (lo hi:Option Int) (sl:Addr) (Q:VK),Inv X pins σ H s->RelV x v->s.heap.IsSliceOf sl vl vu .none->IsPart vl lo->IsPart vu hi->r x lo hi H Q →
  ∃ T id,typeLookup (.type T) "__getitem__"=pure (some (.builtin id))/\s.TypeIs v T/\wpAny (model X.prog X.w) X.A (getItem v (.ref sl)) (EP X pins σ Q) X.xe s
theorem SlR.or {r r':V->Option Int->Option Int->Hp->VK->Prop}(h:SlR X r) (h':SlR X r'):SlR X (λ x lo hi H Q=>r x lo hi H Q\/r' x lo hi H Q):=by
 intro pins s σ H x v vl vu lo hi sl Q I rx hs pl pu q
 rcases q with q|q
 ·exact h pins s σ H x v vl vu lo hi sl Q I rx hs pl pu q
 ·exact h' pins s σ H x v vl vu lo hi sl Q I rx hs pl pu q
noncomputable def tSl (r:V->Option Int->Option Int->Hp->VK->Prop) (te:TE) (tl th:TO):TE:=λ σ H Q=>te σ H λ x H1=>tl σ H1 λ l H2=>th σ H2 λ u H3=>r x l u H3 Q
theorem Agh {r:V->Option Int->Option Int->Hp->VK->Prop}(hr:SlR X r) (he:PE X e te) (hl:PO X lo tl) (hu:PO X hi th):PE X (.Subscript e (.Slice lo hi none p2) pos) (tSl r te tl th):=by
 intro pins s σ H Q I h
 refine Subscript_ (thn (he pins s σ H _ I h) ?_)
 rintro v s1 ⟨x,H1,I1,r1,q1⟩
 refine wpAny_Slice (thn (hl pins s1 σ H1 _ I1 q1) λ vl s2 ⟨l,H2,I2,pl,q2⟩=>thn (hu pins s2 σ H2 _ I2 q2) ?_)
 rintro vu s3 ⟨u,H3,I3,pu,q3⟩
 rw [evalPart_none]
 refine wpAny_pure ?_
 have I4:Inv X pins σ H3 { s3 with heap:=s3.heap.push { cls:=.type "slice",data:=.fields #[vl,vu,.none] } }:=I3.kept (t':=s3.toks) λ b ob q=>Heap.get?_push_of_some _ q
 obtain⟨T,id,hT,ht,hg⟩:=hr pins { s3 with heap:=s3.heap.push { cls:=.type "slice",data:=.fields #[vl,vu,.none] } } σ H3 x v vl vu l u s3.heap.objs.size Q I4 r1 (Heap.IsSliceOf.new ..) pl pu q3
 show wpAny (model X.prog X.w) X.A (subscriptTail e (.Slice lo hi none p2) v (.ref s3.heap.objs.size)) (EP X pins σ Q) X.xe { s3 with heap:=s3.heap.push { cls:=.type "slice",data:=.fields #[vl,vu,.none] } }
 exact tail_any (ops:=[.ref s3.heap.objs.size,v]) ht hT hg (by with_unfolding_all rfl)
noncomputable def Ajq (xs:List V) (lo hi:Option Int):List V:=(xs.drop (HT.sIx xs.length 0 lo)).take (HT.sIx xs.length xs.length hi-HT.sIx xs.length 0 lo)
theorem Qc (xs:List V) (lo hi:Option Int):(Ajq xs lo hi).length<=xs.length:=by
 unfold Ajq
 rw [List.length_take,List.length_drop]
 omega
def Aw6 (K:PySem.W.Frag):V->Option Int->Option Int->Hp->VK->Prop:=λ x lo hi H Q=>∃ a xs,x=.ref a/\SqT K H a xs ∧
 ¬ (HT.sIx xs.length 0 lo=0/\HT.sIx xs.length xs.length hi=xs.length)/\∀ p,H p=none->Q (.ref p) (upd H p (.tup (Ajq xs lo hi)))
theorem Aoj:SlR X (Aw6 X.K):=by
 intro pins s σ H x v vl vu lo hi sl Q I rx hs pl pu h
 obtain⟨a,xs,rfl,hx,hw,q⟩:=h
 cases rx
 obtain⟨its,r,ht,hz⟩:=I.tuple hx
 have hlen:its.toArray.size=xs.length:=by rw [List.size_toArray];exact r.length.symm
 refine⟨"tuple",_,PyProof.Rows.slot_tuple_getitem.lookup,ht.typeIs,?_⟩
 refine HT.getItem_tuple_cut ht hs pl pu (by rw [hlen];exact hw) ?_ (by rw [hlen];exact hz)
 rw [hlen]
 refine⟨.ref s.heap.objs.size,_,I.laid (t':=s.toks) (o:=.tup (Ajq xs lo hi)) (λ b ob q=>Heap.get?_push_of_some _ q) (Nat.le_refl _) ?_,rfl,q _ (I.hok.fresh (Nat.le_refl _))⟩
 exact⟨Nat.le_trans (Qc xs lo hi) hz,_,(r.drop (HT.sIx xs.length 0 lo)).take (HT.sIx xs.length xs.length hi-HT.sIx xs.length 0 lo),IsTup.new _ _⟩
noncomputable def Av2 (K:PySem.W.Frag):R2:=λ x y H Q=>∃ a b ns ms,x=.ref a/\y=.ref b/\SqT K H a (ns.map V.int)/\SqT K H b (ms.map V.int)/\Q (.bl (HT.lexLt ns ms)) H
theorem Ano (hu:X.A.units<cLine):OpR X (compareOp .Lt) (Av2 X.K):=by
 intro pins s σ H x y v u Q I rx ry h
 obtain⟨a,b,ns,ms,rfl,rfl,ha,hb,q⟩:=h
 cases rx
 cases ry
 obtain⟨its,r1,p1,_⟩:=I.tuple ha
 obtain⟨its2,r2,p2,_⟩:=I.tuple hb
 have i1:IntsAre its.toArray.toList ns:=intsAre_of r1
 have i2:IntsAre its2.toArray.toList ms:=intsAre_of r2
 exact HT.lt_tupInts p1 p2 i1 i2 hu ⟨.bl (HT.lexLt ns ms),H,I,rfl,q⟩
noncomputable def Alc (K:PySem.W.Frag):R2:=λ x y H Q=>∃ a b xs ys,x=.ref a/\y=.ref b/\SqT K H a xs/\SqT K H b ys/\xs≠[]/\xs.length+ys.length<=sizeLine ∧
 (ys=[]->Q (.ref a) H)/\(ys≠[]->∀ p,H p=none->Q (.ref p) (upd H p (.tup (xs++ys))))
theorem Vals.nil_iff {xs:List V}{us:List Value}(r:Vals xs us):us=[] ↔ xs=[]:=by
 cases r with
 | nil=>simp
 | cons _ _=>simp
theorem Akr:OpR X (binaryOp .Add) (Alc X.K):=by
 intro pins s σ H x y v u Q I rx ry h
 obtain⟨a,b,xs,ys,rfl,rfl,ha,hb,hx,hz,q1,q2⟩:=h
 cases rx
 cases ry
 obtain⟨its,r1,p1,_⟩:=I.tuple ha
 obtain⟨its2,r2,p2,_⟩:=I.tuple hb
 refine HT.cat_tup p1 p2 (λ z=>hx (r1.nil_iff.mp z)) (λ z=>⟨.ref a,H,I,rfl,q1 (r2.nil_iff.mp z)⟩) (λ z=>?_) (by rw [<-r1.length,<-r2.length];exact hz)
 refine⟨.ref s.heap.objs.size,_,I.laid (t':=s.toks) (o:=.tup (xs++ys)) (λ b ob q=>Heap.get?_push_of_some _ q) (Nat.le_refl _) ?_,rfl,q2 (λ w=>z (r2.nil_iff.mpr w)) _ (I.hok.fresh (Nat.le_refl _))⟩
 exact⟨by rw [List.length_append];exact hz,_,r1.append r2,IsTup.new _ _⟩
end
end L2
namespace L2
open PySem PySem.Spec PyProof.Rows
noncomputable def ixN (n:Nat) (i:Int):Option Nat:=if 0<=i then (if i<n then some i.toNat else none) else if -(n:Int)<=i then some (i+n).toNat else none
noncomputable def atI {α:Type}(xs:List α) (i:Int):Option α:=(ixN xs.length i).bind λ j=>xs[j]?
theorem Ak0 {n:Nat}{i:Int}{j:Nat}(h:ixN n i=some j):seqIndex? i n=some j/\j<n/\-(n:Int)<=i/\i<n:=by
 unfold ixN at h
 by_cases h0:0<=i
 ·rw [if_pos h0] at h
  by_cases h1:i<n
  ·rw [if_pos h1] at h
   have e:i.toNat=j:=Option.some.inj h
   exact⟨by rw [seqIndex_of h0 h1,e],by omega,by omega,h1⟩
  ·rw [if_neg h1] at h;cases h
 ·rw [if_neg h0] at h
  by_cases h1:-(n:Int)<=i
  ·rw [if_pos h1] at h
   have e:(i+n).toNat=j:=Option.some.inj h
   exact⟨by rw [seqIndex_neg (by omega) h1,e],by omega,h1,by omega⟩
  ·rw [if_neg h1] at h;cases h
theorem Yr {α:Type}{xs:List α}{i:Int}{v:α}(h:atI xs i=some v):∃ j,seqIndex? i xs.length=some j/\xs[j]?=some v/\j<xs.length/\-(xs.length:Int)<=i/\i<xs.length:=by
 unfold atI at h
 cases e:ixN xs.length i with
 | none=>rw [e] at h;cases h
 | some j =>
  rw [e] at h
  obtain⟨h1,h2,h3,h4⟩:=Ak0 e
  exact⟨j,h1,h,h2,h3,h4⟩
theorem Iw {α:Type}{xs:List α}{j:Nat}{v:α}(h:xs[j]?=some v):atI xs (j:Int)=some v:=by
 have hj:j<xs.length:=(List.getElem?_eq_some_iff.mp h).1
 have e:ixN xs.length (j:Int)=some j:=by
  unfold ixN
  rw [if_pos (by omega),if_pos (by omega)];simp
 unfold atI;rw [e];exact h
def Tr (b:Expr):Prop:=∀ o i,subscripted b false o i=operate [o,i] (getItem o i)
def IxR (X:Cx) (r:R2):Prop :=
 ∀ (value slice:Expr) (pins:List (Addr × Obj)) (s:Shared) (σ:St) (H:Hp) (x y:V) (v u:Value) (Q:VK),Inv X pins σ H s->RelV x v->RelV y u->r x y H Q →
  subscripted slice false v u=operate [v,u] (getItem v u)->wpAny (model X.prog X.w) X.A (subscriptTail value slice v u) (EP X pins σ Q) X.xe s
def MtR (X:Cx) (id:String) (r:V->List V->Hp->VK->Prop):Prop :=
 ∀ (pins:List (Addr × Obj)) (s:Shared) (σ:St) (H:Hp) (x:V) (xs:List V) (v:Value) (us:List Value) (Q:VK),Inv X pins σ H s->RelV x v->Vals xs us->r x xs H Q →
  wpAny (model X.prog X.w) X.A (call (.builtin id) (v :: us)) (EP X pins σ Q) X.xe s
section
variable {X:Cx}{a b:Expr}{ta tb:TE}{pos:Pos}
theorem IxR.or {r r':R2}(h:IxR X r) (h':IxR X r'):IxR X (λ x y H Q=>r x y H Q\/r' x y H Q):=by
 intro value slice pins s σ H x y v u Q I rx ry q hs
 rcases q with q|q
 ·exact h value slice pins s σ H x y v u Q I rx ry q hs
 ·exact h' value slice pins s σ H x y v u Q I rx ry q hs
theorem Af0 {r:R2}(hr:IxR X r) (ha:PE X a ta) (hb:PE X b tb) (hs:Tr b):PE X (.Subscript a b pos) (tOp r ta tb):=by
 intro pins s σ H Q I h
 exact Subscript_ (Atj ha hb I h λ v u s2 x y H2 I2 rx ry q=>hr a b pins s2 σ H2 x y v u Q I2 rx ry q (hs _ _))
noncomputable def Avl (K:PySem.W.Frag):R2:=λ x y H Q=>∃ p xs i v,x=.ref p/\y=.int i/\SqL K H p xs/\atI xs i=some v/\Q v H
noncomputable def Am4 (K:PySem.W.Frag):R2:=λ x y H Q=>∃ p xs i v,x=.ref p/\y=.int i/\SqT K H p xs/\atI xs i=some v/\Q v H
noncomputable def Av1:R2:=λ x y H Q=>∃ z i c,x=.str z/\y=.int i/\z.length<=sizeLine/\atI z.cps.toList i=some c/\Q (.str ⟨#[c]⟩) H
theorem Aln:IxR X (Avl X.K):=by
 intro value slice pins s σ H x y v u Q I rx ry h hs
 obtain⟨p,xs,i,z,rfl,rfl,hq,he,q⟩:=h
 cases rx
 obtain⟨t,rfl⟩:=ry
 obtain⟨its,r,pl,hz⟩:=I.list hq
 obtain⟨j,h1,h2,h3,h4,h5⟩:=Yr he
 obtain⟨w,ew,rw'⟩:=r.get h2
 have hl:=r.length
 have hn:=Qt
 have fin:EP X pins σ Q w s:=⟨z,H,I,rw',q⟩
 by_cases h0:0<=i
 ·have hj:i.toNat=j:=by
   rw [seqIndex_of h0 h5] at h1
   exact Option.some.inj h1
  exact item_listR pl.isList h0 (by omega) (by rw [hj];simpa using ew) fin hs
 ·have hj:(i+(its.toArray.size:Int)).toNat=j:=by
   rw [seqIndex_neg (by omega) h4] at h1
   rw [List.size_toArray,<-hl]
   exact Option.some.inj h1
  exact subscriptTail_builtinR (x:=w) pl.isList.typeIs slot_list_getitem.lookup
   (wpAny_getItem_list_neg (Q:=λ r s'=>r=w/\EP X pins σ Q r s') pl.isList (by omega) (by rw [List.size_toArray]<;>omega) (by omega) (by rw [hj];simpa using ew) ⟨rfl,fin⟩) hs
theorem W2:IxR X (Am4 X.K):=by
 intro value slice pins s σ H x y v u Q I rx ry h hs
 obtain⟨p,xs,i,z,rfl,rfl,hq,he,q⟩:=h
 cases rx
 obtain⟨t,rfl⟩:=ry
 obtain⟨its,r,pl,hz⟩:=I.tuple hq
 obtain⟨j,h1,h2,h3,h4,h5⟩:=Yr he
 obtain⟨w,ew,rw'⟩:=r.get h2
 have hl:=r.length
 have hn:=Qt
 have fin:EP X pins σ Q w s:=⟨z,H,I,rw',q⟩
 exact subscriptTail_builtinR (x:=w) pl.typeIs slot_tuple_getitem.lookup
  (getItem_tuple (j:=j) (Q:=λ r s'=>r=w/\EP X pins σ Q r s') pl (by omega) (by omega) (by rw [List.size_toArray,<-hl];exact h1) (by simpa using ew) ⟨rfl,fin⟩) hs
theorem Apd:IxR X Av1:=by
 intro value slice pins s σ H x y v u Q I rx ry h hs
 obtain⟨z,i,c,rfl,rfl,hz,he,q⟩:=h
 obtain⟨t,rfl⟩:=rx
 obtain⟨t',rfl⟩:=ry
 obtain⟨j,h1,h2,h3,h4,h5⟩:=Yr he
 have hl:z.cps.toList.length=z.length:=by simp [Str.length]
 rw [hl] at h1 h4 h5
 have hn:=Qt
 exact tail_any (typeIs_str s z t) slot_str_getitem.lookup (getItem_str (c:=c) (by
  have e1:decide (i < -(2 ^ 63:Int))=false:=decide_eq_false (by omega)
  have e2:decide (i ≥ 2 ^ 63)=false:=decide_eq_false (by omega)
  rw [e1,e2,Bool.or_false]) (by rw [h1];simpa using h2) ⟨.str ⟨#[c]⟩,H,I.tok _,⟨_,rfl⟩,q⟩) hs
noncomputable def rIx (K:PySem.W.Frag):R2:=λ x y H Q=>Avl K x y H Q\/Am4 K x y H Q\/Av1 x y H Q
theorem Ao3:IxR X (rIx X.K):=Aln.or (W2.or Apd)
theorem Wd (lo hi:Option Int) (n:Nat):(sliceBounds lo hi none n).1=((HT.sIx n 0 lo:Nat):Int)/\(sliceBounds lo hi none n).2.1=((HT.sIx n n hi:Nat):Int)/\(sliceBounds lo hi none n).2.2=1:=by
 refine⟨?_,?_,rfl⟩
 ·cases lo with
  | none=>simp [sliceBounds,HT.sIx]
  | some i =>
   simp only [sliceBounds,HT.sIx,Option.getD_none,show (1:Int) > 0 by decide,if_true]
   by_cases h:i<0
   ·simp only [h,if_true]<;>omega
   ·simp only [h,if_false]<;>omega
 ·cases hi with
  | none=>simp [sliceBounds,HT.sIx]
  | some i =>
   simp only [sliceBounds,HT.sIx,Option.getD_none,show (1:Int) > 0 by decide,if_true]
   by_cases h:i<0
   ·simp only [h,if_true]<;>omega
   ·simp only [h,if_false]<;>omega
theorem Uq (its:List Value) (lo hi:Option Int):slicePick its.toArray lo hi none=((its.drop (HT.sIx its.length 0 lo)).take (HT.sIx its.length its.length hi-HT.sIx its.length 0 lo)).toArray:=by
 obtain⟨h1,h2,h3⟩:=Wd lo hi its.toArray.size
 unfold slicePick
 rw [h1,h2,h3]
 simp only [sliceRange_one,pick_run,List.size_toArray]<;>rfl
def Ayw (K:PySem.W.Frag):V->Option Int->Option Int->Hp->VK->Prop:=λ x lo hi H Q=>∃ a xs,x=.ref a/\SqL K H a xs/\∀ p,H p=none->Q (.ref p) (upd H p (.lst (Ajq xs lo hi)))
theorem Amf:SlR X (Ayw X.K):=by
 intro pins s σ H x v vl vu lo hi sl Q I rx hs pl pu h
 obtain⟨a,xs,rfl,hx,q⟩:=h
 cases rx
 obtain⟨its,r,ht,hz⟩:=I.list hx
 have hlen:=r.length
 refine⟨"list",_,slot_list_getitem.lookup,ht.isList.typeIs,?_⟩
 refine wpAny_getItem_list_slice ht.isList hs pl pu .none (by simp) ?_ (by rw [List.size_toArray]<;>omega)
 rw [Uq,<-hlen]
 refine⟨.ref s.heap.objs.size,_,I.laid (t':=s.toks) (o:=.lst (Ajq xs lo hi)) (λ b ob q=>Heap.get?_push_of_some _ q) (Nat.le_refl _) ?_,rfl,q _ (I.hok.fresh (Nat.le_refl _))⟩
 exact⟨Nat.le_trans (Qc xs lo hi) hz,_,0,(r.drop (HT.sIx xs.length 0 lo)).take (HT.sIx xs.length xs.length hi-HT.sIx xs.length 0 lo),Heap.get?_push_size _ rfl⟩
theorem Vu:Fy X (.builtin "len") (λ xs H Q=>∃ p ys,xs=[.ref p]/\(SqL X.K H p ys\/SqT X.K H p ys)/\Q (.int ys.length) H):=by
 intro pins s σ H xs us Q I r h
 obtain⟨p,ys,rfl,hq,q⟩:=h
 obtain⟨u,rfl,rx⟩:=vals1 r
 cases rx
 have hn:=Qt
 rcases hq with hq|hq
 ·obtain⟨its,r',pl,hz⟩:=I.list hq
  have hlen:=r'.length
  exact Calls.call_len_list pl.isList (by simp only [List.size_toArray]<;>omega) ⟨.int ys.length,H,I.tok _,⟨s.toks+1,by rw [List.size_toArray,hlen]⟩,q⟩
 ·obtain⟨its,r',pl,hz⟩:=I.tuple hq
  have hlen:=r'.length
  exact len_tuple pl (by simp only [List.size_toArray]<;>omega) ⟨.int ys.length,H,I.tok _,⟨s.toks+1,by rw [List.size_toArray,hlen]⟩,q⟩
theorem Wr:Fy X (.builtin "len") (λ xs H Q=>∃ z,xs=[.str z]/\z.length<=sizeLine/\Q (.int z.length) H):=by
 intro pins s σ H xs us Q I r h
 obtain⟨z,rfl,hz,q⟩:=h
 obtain⟨u,rfl,t,rfl⟩:=vals1 r
 have hn:=Qt
 exact len_str (by omega) ⟨.int z.length,H,I.tok _,⟨_,rfl⟩,q⟩
theorem Fy.or {f:Value}{r r':List V->Hp->VK->Prop}(h:Fy X f r) (h':Fy X f r'):Fy X f (λ xs H Q=>r xs H Q\/r' xs H Q):=by
 intro pins s σ H xs us Q I rs q
 rcases q with q|q
 ·exact h pins s σ H xs us Q I rs q
 ·exact h' pins s σ H xs us Q I rs q
theorem U9:Fy X (.type "list") (λ xs H Q=>∃ p ys,xs=[.ref p]/\(SqL X.K H p ys\/SqT X.K H p ys)/\∀ l,H l=none->Q (.ref l) (upd H l (.lst ys))):=by
 intro pins s σ H xs us Q I r h
 obtain⟨p,ys,rfl,hq,q⟩:=h
 obtain⟨u,rfl,rx⟩:=vals1 r
 cases rx
 have fin:∀ (its:List Value),Vals ys its->ys.length<=sizeLine->∀ (h':Heap) (c':Nat),(∀ b o',s.heap.get? b=some o'->h'.get? b=some o') →
   h'.get? s.heap.objs.size=some { cls:=.type "list",dict:=none,data:=.seq its.toArray c',slots:=#[] }->EP X pins σ Q (.ref s.heap.objs.size) { s with heap:=h' }:=λ its r' hz h' c' kp e =>
  ⟨.ref s.heap.objs.size,_,I.laid (t':=s.toks) kp (Nat.le_refl _) (show Ea X.prog X.w _ h' _ (.lst ys) from ⟨hz,its,c',r',e⟩),rfl,q _ (I.hok.fresh (Nat.le_refl _))⟩
 rcases hq with hq|hq
 ·obtain⟨its,r',pl,hz⟩:=I.list hq
  have hlen:=r'.length
  obtain⟨o,ho,hc,n,hd⟩:=pl.isList
  exact call_list_seq p (.inl rfl) ho hc hd (λ h' c' kp e=>fin its r' hz h' c' kp e) (by simp only [List.size_toArray]<;>omega)
 ·obtain⟨its,r',pl,hz⟩:=I.tuple hq
  have hlen:=r'.length
  obtain⟨o,ho,hc,n,hd⟩:=pl
  exact call_list_seq p (.inr rfl) ho hc hd (λ h' c' kp e=>fin its r' hz h' c' kp e) (by simp only [List.size_toArray]<;>omega)
def tyV (K:PySem.W.Frag) (T:String) (x:V) (H:Hp):Prop:=match x with
 | .str _=>T="str"
 | .int _=>T="int"
 | .ref p=>(T="list"/\∃ xs,SqL K H p xs)\/(T="tuple"/\∃ o,K.lookup p=some o/\o.cls=.type "tuple"/\o.dict=none) ∨
   (T="dict"/\((∃ kvs,H p=some (.dK kvs))\/∃ kvs,H p=some (.dT kvs)))\/(T="set"/\∃ S n,H p=some (.set S n))
 | _=>False
theorem Ajs {pins:List (Addr × Obj)}{σ:St}{H:Hp}{s:Shared}{T:String}{x:V}{v:Value}(I:Inv X pins σ H s) (r:RelV x v) (ty:tyV X.K T x H) :
  s.TypeIs v T/\∀ a,v=.ref a->∃ ob,s.heap.get? a=some ob/\ob.dict=none:=by
 cases x with
 | str z =>
  obtain⟨t,rfl⟩:=r
  cases (show T="str" from ty)
  exact⟨typeIs_str s z t,λ _ e=>nomatch e⟩
 | int i =>
  obtain⟨t,rfl⟩:=r
  cases (show T="int" from ty)
  exact⟨typeIs_int s i t,λ _ e=>nomatch e⟩
 | ref p =>
  cases r
  rcases ty with ⟨rfl,xs,hq⟩|⟨rfl,o,hk,hc,hd⟩|⟨rfl,hk⟩|⟨rfl,S,n,hk⟩
  ·obtain⟨its,_,pl,_⟩:=I.list hq
   refine⟨pl.isList.typeIs,λ a e=>?_⟩
   cases e
   obtain⟨o,n,e,c,hd,_⟩:=pl
   exact⟨o,e,hd⟩
  ·refine⟨⟨o,I.kIn p o hk,hc⟩,λ a e=>?_⟩
   cases e
   exact⟨o,I.kIn _ o hk,hd⟩
  ·have z:∃ o,s.heap.get? p=some o/\o.ExactDict:=by
    rcases hk with ⟨kvs,hk⟩|⟨kvs,hk⟩
    ·obtain⟨_,_,_,_,o,_,_,e,ex,_⟩:=I.hok p _ hk
     exact⟨o,e,ex⟩
    ·obtain⟨_,_,_,_,o,_,_,e,ex,_⟩:=I.hok p _ hk
     exact⟨o,e,ex⟩
   obtain⟨o,e,ex⟩:=z
   refine⟨⟨o,e,ex.1⟩,λ a e2=>?_⟩
   cases e2
   exact⟨o,e,ex.2.1⟩
  ·obtain⟨o,_,_,_,e,ex,_⟩:=I.hok p _ hk
   refine⟨⟨o,e,ex.1⟩,λ a e2=>?_⟩
   cases e2
   exact⟨o,e,ex.2.1⟩
 | _=>exact False.elim ty
noncomputable def Ata (K:PySem.W.Frag) (T:String) (r:V->List V->Hp->VK->Prop) (to:TE):TE:=λ σ H Q=>to σ H λ x H1=>tyV K T x H1/\r x [] H1 Q
noncomputable def tBM (K:PySem.W.Frag) (T:String) (r:V->List V->Hp->VK->Prop) (to:TE) (t:TA):TE:=λ σ H Q=>to σ H λ x H1=>tyV K T x H1/\t σ H1 λ xs H2=>r x xs H2 Q
variable {o e:Expr}{es:List Expr}{to:TE}{t:TA}{name:Str}{apos cpos:Pos}{T id:String}{r:V->List V->Hp->VK->Prop}
theorem Ajt (pa:PlainAttrs T) (slot:Slot T name id) (hty:typeOf (.builtin id)=pure (.type "method_descriptor")) (hm:MtR X id r) (ho:PE X o to)
  (hbase:attributeBase o name X.env (eval o X.env)=eval o X.env:=by rfl) (hline:(apos.endLine == cpos.line)=true:=by rfl):PE X (.Call (.Attribute o name apos) [] [] cpos) (Ata X.K T r to):=by
 intro pins s σ H Q I h
 refine wpAny_Call_method0_late hbase hline (thn (ho pins s σ H _ I h) ?_)
 rintro v s1 ⟨x,H1,I1,r1,ty,q1⟩
 obtain⟨h1,h2⟩:=Ajs I1 r1 ty
 exact⟨T,id,pa,slot,hty,h1,h2,Calls.callWith_builtin rfl (PySem.evalArgs_none (hm pins s1 σ H1 x [] v [] Q I1 r1 .nil q1))⟩
theorem Abj (pa:PlainAttrs T) (slot:Slot T name id) (hty:typeOf (.builtin id)=pure (.type "method_descriptor")) (hm:MtR X id r) (ho:PE X o to) (ha:PA X (e :: es) t)
  (hbase:attributeBase o name X.env (eval o X.env)=eval o X.env:=by rfl)
  (hfew:((backTo cpos (starEach (e :: es) X.env)).all (λ x=>!x.1) && (backToKw cpos (keywordEach [] X.env)).all (λ x=>x.1.isSome)
   && decide ((e :: es).length+([]:List Keyword).length+(if ([]:List Keyword).isEmpty then 0 else 1)<30))=true:=by rfl)
  (hline:(apos.endLine == cpos.line)=true:=by rfl) (hs:starEach (e :: es) X.env=(false,eval e X.env) :: starEach es X.env:=by rfl) (hplain:(backTo cpos (starEach es X.env)).any (·.1)=false:=by rfl) :
  PE X (.Call (.Attribute o name apos) (e :: es) [] cpos) (tBM X.K T r to t):=by
 intro pins s σ H Q I h
 refine wpAny_Call_method_late hbase hfew hline rfl (thn (ho pins s σ H _ I h) ?_)
 rintro v s1 ⟨x,H1,I1,r1,ty,q1⟩
 obtain⟨h1,h2⟩:=Ajs I1 r1 ty
 refine⟨T,id,pa,slot,hty,h1,h2,?_⟩
 have hA:=ha cpos pins s1 σ H1 _ I1 q1
 rw [hs] at hA ⊢
 refine Calls.callWith_builtin (by show (false || (backTo cpos (starEach es X.env)).any (·.1))=false;rw [hplain]<;>rfl) (Calls.evalArgs_plain ?_)
 exact thn hA λ us s2 ⟨vs,H2,I2,r2,q2⟩=>hm pins s2 σ H2 x vs v us Q I2 r1 r2 q2
/- xs.append(e),list.index on a module's tuple .. are MtR facts of 06m -/
end
end L2
namespace L2
open PySem PySem.Spec PyProof.Rows
def MtM (X:Cx) (id:String) (r:V->List V->Hp->VK->Prop):Prop :=
 ∀ (pins:List (Addr × Obj)) (s:Shared) (σ:St) (H:Hp) (x:V) (xs:List V) (v:Value) (us:List Value) (Q:VK),Inv X pins σ H s->RelV x v->Vals xs us->r x xs H Q →
  wpAny (model X.prog X.w) X.A (call (.builtin id) (v :: us)) (EP X pins σ Q) X.xe s
theorem Vals.one:∀ {x:V}{us:List Value},Vals [x] us->∃ u,us=[u]/\RelV x u
 | _,_,.cons r .nil=>⟨_,rfl,r⟩
theorem Vals.zero:∀ {us:List Value},Vals [] us->us=[]
 | _,.nil=>rfl
theorem Vals.dropLast {xs:List V}{us:List Value}(h:Vals xs us):Vals xs.dropLast us.dropLast:=by
 induction h with
 | nil=>exact .nil
 | cons r t ih =>
  cases t with
  | nil=>exact .nil
  | cons q t'=>exact .cons r ih
theorem Abw {α:Type}(l:List α):l.eraseIdx (l.length-1)=l.dropLast:=by
 induction l with
 | nil=>rfl
 | cons a r ih =>
  cases r with
  | nil=>rfl
  | cons b r =>
   have e:(a :: b :: r).length-1=((b :: r).length-1)+1:=by
    have h1:(a :: b :: r).length=r.length+2:=rfl
    have h2:(b :: r).length=r.length+1:=rfl
    omega
   rw [e,List.eraseIdx_cons_succ,ih]
   all_goals rfl
section
variable {X:Cx}{pins:List (Addr × Obj)}{σ:St}{H:Hp}{s:Shared}{l b:Addr}{xs ys zs:List V}
theorem Inv.lset {its its':List Value}{n:Nat}{f:Array Value->Array Value}{t':Nat}(I:Inv X pins σ H s) (hH:H l=some (.lst xs))
  (e:s.heap.get? l=some { cls:=.type "list",data:=.seq its.toArray n }) (hf:f its.toArray=its'.toArray) (hv:Vals ys its') (hz:ys.length<=sizeLine) :
  Inv X pins σ (upd H l (.lst ys)) { s with heap:=s.heap.update l (Obj.mapSeq f),toks:=t' }:=by
 have q:=PySem.IsL.update e f
 rw [hf] at q
 refine I.write (x:=l) (e:=l) (by rw [hH];exact trivial) (.inl rfl) (λ b' u hb hu=>(Heap.get?_update_other s.heap (Obj.mapSeq f) (Ne.symm hb)).trans hu) ⟨_,q⟩ ?_
 exact⟨hz,its',_,hv,q⟩
theorem Inv.lnew {its:List Value}{t':Nat}(I:Inv X pins σ H s) (hv:Vals ys its) (hz:ys.length<=sizeLine) :
  Inv X pins σ (upd H s.heap.objs.size (.lst ys)) { s with heap:=s.heap.push { cls:=.type "list",data:=.seq its.toArray },toks:=t' } :=
 I.laid (λ _ _ q=>Heap.get?_push_of_some _ q) (Nat.le_refl _) ⟨hz,its,0,hv,Heap.get?_push_size _ rfl⟩
theorem Inv.fresh (I:Inv X pins σ H s):H s.heap.objs.size=none:=I.hok.fresh (Nat.le_refl _)
theorem Inv.lstM (I:Inv X pins σ H s) (hH:H l=some (.lst xs)):xs.length<=sizeLine/\∃ (its:List Value) (n:Nat),Vals xs its/\xs.length=its.length/\s.heap.get? l=some { cls:=.type "list",data:=.seq its.toArray n }:=by
 obtain⟨z,its,n,r,e⟩:=I.hok l _ hH
 exact⟨z,its,n,r,r.length,e⟩
theorem Ah6 {n:Nat}(h:n<=sizeLine):Builtin.List.listTooLong n=false:=by
 unfold Builtin.List.listTooLong
 exact decide_eq_false (by omega)
end
section
variable {X:Cx}
def Tc:V->List V->Hp->VK->Prop:=λ x vs H Q=>∃ l xs y,x=.ref l/\vs=[y]/\H l=some (.lst xs)/\xs.length<sizeLine/\Q .non (upd H l (.lst (xs++[y])))
theorem Ph:MtM X "list.append" Tc:=by
 intro pins s σ H x vs v us Q I rx rv h
 obtain⟨l,xs,y,rfl,rfl,hH,hz,q⟩:=h
 cases rx
 obtain⟨u,rfl,ru⟩:=rv.one
 obtain⟨z,its,n,r,hl,e⟩:=I.lstM hH
 refine call_meets F.slot_list_append ⟨_,e,rfl⟩ F.entry_list_append (F.args_list_append_2 _ _) (PySem.list_append l its.toArray n u (by rw [List.size_toArray];omega)) ⟨e,?_⟩
 refine⟨.non,_,I.lset (its':=its++[u]) hH e (by simp) (r.append (.cons ru .nil)) ?_,rfl,q⟩
 rw [List.length_append,List.length_singleton]
 omega
def Ad0:V->List V->Hp->VK->Prop:=λ x vs H Q=>∃ l b xs zs,x=.ref l/\vs=[.ref b]/\H l=some (.lst xs)/\H b=some (.lst zs)/\xs.length+zs.length<=sizeLine/\Q .non (upd H l (.lst (xs++zs)))
theorem Aej:MtM X "list.extend" Ad0:=by
 intro pins s σ H x vs v us Q I rx rv h
 obtain⟨l,b,xs,zs,rfl,rfl,hH,hB,hz,q⟩:=h
 cases rx
 obtain⟨u,rfl,ru⟩:=rv.one
 cases ru
 obtain⟨z,its,n,r,hl,e⟩:=I.lstM hH
 obtain⟨z2,its2,n2,r2,hl2,e2⟩:=I.lstM hB
 have hsz:its.toArray.size+its2.toArray.size<=sizeLine:=by rw [List.size_toArray,List.size_toArray];omega
 have hlong:¬ (!its.toArray.isEmpty && Builtin.List.listTooLong (its.toArray.size+its2.toArray.size))=true:=by
  rw [Ah6 hsz,Bool.and_false]
  exact Bool.false_ne_true
 refine call_meets F.slot_list_extend ⟨_,e,rfl⟩ F.entry_list_extend (F.args_list_extend_2 _ _)
  (AutoSeq1.list_extend_list_list_0 l its.toArray n b its2.toArray n2 hlong (by rw [List.size_toArray];omega) (by omega)) ⟨e,e2,?_⟩
 refine⟨.non,_,I.lset (its':=its++its2) hH e (by simp) (r.append r2) ?_,rfl,q⟩
 rw [List.length_append]
 omega
def Au4:V->List V->Hp->VK->Prop:=λ x vs H Q=>∃ l xs y,x=.ref l/\vs=[]/\H l=some (.lst xs)/\xs[xs.length-1]?=some y/\Q y (upd H l (.lst xs.dropLast))
theorem Apc:MtM X "list.pop" Au4:=by
 intro pins s σ H x vs v us Q I rx rv h
 obtain⟨l,xs,y,rfl,rfl,hH,hy,q⟩:=h
 cases rx
 have hus:=rv.zero
 subst hus
 obtain⟨z,its,n,r,hl,e⟩:=I.lstM hH
 obtain⟨u,hu,ru⟩:=r.get hy
 have hy':its.toArray[its.toArray.size-1]?=some u:=by
  show its.toArray[its.length-1]?=some u
  rw [<-Array.getElem?_toList,<-hl]
  exact hu
 refine call_meets F.slot_list_pop ⟨_,e,rfl⟩ F.entry_list_pop (F.args_list_pop_1 _) (MeetsSeq.list_pop_last l its.toArray n u hy' (by rw [List.size_toArray];omega)) ⟨e,?_⟩
 refine⟨y,_,I.lset (its':=its.dropLast) hH e ?_ r.dropLast ?_,ru,q⟩
 ·show its.toArray.eraseIdxIfInBounds (its.toArray.size-1)=its.dropLast.toArray
  rw [List.size_toArray,List.eraseIdxIfInBounds_toArray,Abw]
 ·rw [List.length_dropLast]
  omega
noncomputable def Asr:R2:=λ x y H Q=>∃ l b xs zs,x=.ref l/\y=.ref b/\H l=some (.lst xs)/\H b=some (.lst zs)/\xs.length+zs.length<=sizeLine/\∀ p,H p=none->Q (.ref p) (upd H p (.lst (xs++zs)))
theorem Ai2:OpR X (binaryOp .Add) Asr:=by
 intro pins s σ H x y v u Q I rx ry h
 obtain⟨l,b,xs,zs,rfl,rfl,hH,hB,hz,q⟩:=h
 cases rx
 cases ry
 obtain⟨z,its,n,r,hl,e⟩:=I.lstM hH
 obtain⟨z2,its2,n2,r2,hl2,e2⟩:=I.lstM hB
 refine PySem.P.add_list e e2 ?_ (by rw [List.size_toArray,List.size_toArray];omega)
 have ea:its.toArray++its2.toArray=(its++its2).toArray:=by simp
 rw [ea]
 exact⟨.ref _,_,I.lnew (t':=s.toks) (r.append r2) (by rw [List.length_append];omega),rfl,q _ I.fresh⟩
end
section
variable {prog:Program}{w:World}{A:Around}{E:Value->Shared->Prop}{s:Shared}
end
section
variable {X:Cx}
end
end L2
namespace Att
open PySem PySem.W PySem.Calls PyProof.Rows
theorem Pg {P:Params}{h:Heap}:∀ (ns:List Int) (vs:List Value),WellAll P h vs (ns.map WData.int)->IntsAre vs ns:=by
 intro ns
 induction ns with
 | nil =>
  intro vs w
  rw [List.map_nil] at w
  cases w
  exact .nil
 | cons n ns ih =>
  intro vs w
  rw [List.map_cons] at w
  cases w with
  | cons a b =>
   cases a
   exact .cons _ _ (ih _ b)
theorem Afh {l:OpenLaw}{n:Nat}(hn:l.most=some n) {P:Params}{h:Heap}{args:List WData}{vals:List Value}
  (hpre:l.row.toRowW.claim.pre args=true) (hwl:WellAll P h vals args) :
  ∃ a vs ns,vals=[Value.ref a]/\args=[WData.list (ns.map WData.int)]/\h.get? a=some { cls:=.type "list",data:=.seq vs.toArray }/\IntsAre vs ns/\ns.length<=n:=by
 have hsh:WShape.hasAll [] args [.list .int]=true:=(pre_splitW hpre).1
 have hc:l.pre.holds [] { args:=args }=true:=(pre_splitW hpre).2
 obtain⟨d,r,rfl,h1,h2⟩:=hasAllW_cons hsh
 obtain rfl:=hasAllW_nil h2
 obtain⟨xs,rfl,h3⟩:=hasW_list h1
 obtain⟨ns,rfl⟩:=items_int h3
 have hlen:ns.length<=n:=by
  unfold OpenLaw.pre at hc
  have h4:(WTm.not (.lt (.lit (.int (n:Int))) (.len (.arg 0)))).holds [] { args:=[.list (ns.map .int)] }=true:=by
   have h4:=(holds_andW hc).1
   rw [hn] at h4
   exact h4
  have h5:=condW_of h4 (w_not (w_lt w_lit (w_len_list (w_arg rfl))))
  rw [List.length_map] at h5
  refine Nat.le_of_not_lt λ q=>?_
  have q':(n:Int)<((ns.length:Nat):Int):=by omega
  first
   | (rw [decide_eq_true q'] at h5;exact absurd h5 (by decide))
   | (simp at h5;omega)
 cases hwl with
 | cons w1 w2 =>
  cases w2
  cases w1 with
  | list ho hall=>exact⟨_,_,ns,rfl,rfl,ho,Pg ns _ hall,hlen⟩
theorem Afl (l:OpenLaw) (args:List WData):l.row.toRowW.claim.post args (.bool true) args=true :=
 postW_of (r:=l.row.toRowW) (X:=(true == true))
  (show WShape.has [] (.bool true) .bool=true by first|rfl|decide|simp [WShape.has,WShape.arms,WShape.armsAll])
  (show (WTm.eq .res (.lit (.bool true))).value [] { args:=args,res:=some (.bool true),after:=args }=some (.bool (true == true)) from w_eq_bool (w_res rfl) w_lit) rfl
theorem attach_call {l:OpenLaw}{n:Nat}{q:Program}{loose:List Str}{XP:(Str->Option Value)->Heap->Prop}{YP:World->Heap->Prop}{d:DefRec}
  (hn:l.most=some n) (hdf:d.params.defaults=[])
  (call:∀ (w:World) (s₀ s₁:Shared) (mg mb:Str->Option Value) (fa:Addr) (o:Obj) (pm cd doc:Value) (a:Addr) (vs:List Value) (ns:List Int),
   Ground q loose [] XP w s₀ mg mb s₁.heap->YP w s₁.heap →
   s₁.heap.get? fa=some o->o.data=.func (docDef d.name d.params d.body d.scope pm cd doc)->s₁.heap.CodeRec cd d.name->mg d.name=some (.ref fa) →
   s₁.heap.get? a=some { cls:=.type "list",data:=.seq vs.toArray }->IntsAre vs ns->ns.length<=n->s₁.gens=#[] →
   codeAny (model l.prog w) callerA (.call (.ref fa) ⟨[.ref a],[]⟩) (λ r s'=>r=.ok (.ret (.bool true))/\OldK s₁.heap s'.heap/\s'.os=s₁.os/\AllBare s'.gens) s₁) :
  WalkO q loose XP YP l.row.toRowW d [] (λ f vs=>PySem.call f vs):=by
 intro w s₀ s₁ mg mb G Y fa o pm cd doc dV kV ho hd hcd hD hmg hg args vals as hpre hlay hrd hwl hlo
 obtain rfl:dV=.none:=Dflts.none hD hdf
 obtain rfl:kV=.none:=Dflts.noKw hD
 obtain⟨a,vs,ns,rfl,rfl,hobj,hints,hlen⟩:=Afh hn hpre hwl
 refine enter_call (codeAny_mono (call w s₀ s₁ mg mb fa o pm cd doc a vs ns G Y ho (fd_plain hd) hcd hmg hobj hints hlen hg) λ r s' hq=>?_)
 obtain⟨rfl,h2,h3,h4⟩:=hq
 exact⟨.inl ⟨.bool true,.bool true,[],rfl,λ _=>rfl,.bool true,Afl l _,λ _=>⟨List.Pairwise.nil,λ _ hm=>(nomatch hm)⟩⟩,h2,h3,h4⟩
section
variable {prog:Program}{w:World}{A:Around}{E:Value->Shared->Prop}{s:Shared}{K:Frag}
end
end Att
namespace L2
open PySem PySem.Spec PyProof.Rows
theorem Jx:∀ {vs:List Value}{ns:List Int},IntsAre vs ns->Vals (ns.map V.int) vs
 | _,_,.nil=>.nil
 | _,_,.cons n t h=>.cons ⟨t,rfl⟩ (Jx h)
def Only (H:Hp):Prop:=∀ b,H b=none\/∃ o xs,H b=some (.frz o (.lst xs))
theorem Aih {P:Program}{w:World}{K:PySem.W.Frag}{mg mb:Str->Option Value}{CX:CXT}{k:Nat}{fa a:Addr}{fd:FuncData}{x:Str}{sp:Sp}{s₁:Shared}{vs:List Value}{ns:List Int}
  (KX:K.In s₁.heap) (hns:s₁.heap.Ns mainGlobals mg) (hb:s₁.heap.Ns builtinsNs mb) (hbb:∀ x:Str,x≠"__name__"->mb x=bootBuiltins x) (hlim:s₁.heap.NoLimit) (hg:s₁.gens=#[])
  (ha:s₁.heap.get? a=some { cls:=.type "list",data:=.seq vs.toArray }) (hi:IntsAre vs ns) (hl:ns.length<=sizeLine) (hr:Room k callerA)
  (F:∀ base:Heap,K.In base->base.Ns mainGlobals mg->FnOk P w K mg base CX k fa fd [x] sp) (hbind:∀ (s:Shared) (u:Value),BindsTo s fd ⟨[u],[]⟩ [(x,u)])
  (hsp:∀ H:Hp,Only H->SqL K H a (ns.map V.int)->sp [.ref a] H (λ v _=>v=.bl true) λ _ _ _=>False)
  (hCX:∀ H e s',CX [] H s₁ (λ _ _ _=>False) e s'->False) :
  codeAny (model P w) callerA (.call (.ref fa) ⟨[.ref a],[]⟩) (λ r s'=>r=.ok (.ret (.bool true))/\OldK s₁.heap s'.heap/\s'.os=s₁.os/\AllBare s'.gens) s₁:=by
 have rv:=Jx hi
 have lenV:=hi.length
 -- from an abstract heap in which nothing but the script may be tracked
 have core:∀ H:Hp,Only H->SqL K H a (ns.map V.int)->HOk P w H s₁.heap->(∀ b,H b≠none->b=a)->(H a≠none->K.lookup a=none) →
   codeAny (model P w) callerA (.call (.ref fa) ⟨[.ref a],[]⟩) (λ r s'=>r=.ok (.ret (.bool true))/\OldK s₁.heap s'.heap/\s'.os=s₁.os/\AllBare s'.gens) s₁:=by
  intro H hO hS hok hA hK
  have base_of:∀ {b:Addr} {o:Obj},s₁.heap.get? b=some o->H b=none->(Ahy s₁.heap H).get? b=some o:=λ e n=>Aim e n
  have noA:∀ {b:Addr} {o:Obj} {es:Array DictEntry} {ep:Nat},s₁.heap.get? b=some o->o.data=.dict es ep->H b=none:=λ {b o es ep} e d=>by
   cases q:H b with
   | none=>rfl
   | some u =>
    have e':b=a:=hA b (by rw [q];simp)
    subst e'
    rw [ha] at e;cases e
    have d':Data.seq vs.toArray _=Data.dict es ep:=d
    cases d'
  have nsK:∀ {b:Addr} {m:Str->Option Value},s₁.heap.Ns b m->(Ahy s₁.heap H).Ns b m:=λ {b m} ⟨o,es,ep,e,d,r⟩=>⟨o,es,ep,base_of e (noA e d),d,r⟩
  have hKb:K.In (Ahy s₁.heap H):=λ b o e=>base_of (KX b o e) (by
   cases q:H b with
   | none=>rfl
   | some u =>
    have e':b=a:=hA b (by rw [q];simp)
    subst e'
    rw [hK (by rw [q];simp)] at e;cases e)
  have hM:Mod K mg (Ahy s₁.heap H):=⟨hKb,nsK hns,⟨mb,nsK hb,hbb⟩,let ⟨mc,h1,h2⟩:=hlim;⟨mc,nsK h1,h2⟩⟩
  have e0:Env0 P w K mg (Ahy s₁.heap H) callerA [] s₁ H:=⟨rfl,hM,λ b o e=>Akl e,Nat.le_of_eq (Aem _ _),trivial,λ b hb=>absurd (show b∈([]:List Addr) from hb) (by simp),hok,.of_eq hg⟩
  refine codeAny_mono ((F _ hKb (nsK hns)).run callerA [] s₁ H ⟨[.ref a],[]⟩ [.ref a] [.ref a] _ _ hr e0 (hbind s₁ (.ref a)) (.cons rfl .nil) (hsp H hO hS)) λ r s' h=>?_
  cases r with
  | error e=>exact (hCX H e s' h).elim
  | ok fl =>
   cases fl with
   | next=>exact False.elim h
   | brk=>exact False.elim h
   | cont=>exact False.elim h
   | ret u =>
    obtain⟨v,H',os,bare,un,hok',r',q⟩:=h
    have q':v=.bl true:=q
    subst q'
    obtain rfl:u=Value.bool true:=r'
    refine⟨rfl,OldK.of_keep λ b o e=>?_,os,bare⟩
    cases q:H b with
    | none=>exact un.keep b o e q (by intro z;exact absurd (show b∈([]:List Addr) from z) (by simp)) (by simp)
    | some u =>
     rcases hO b with z|⟨ob,xs,z⟩
     ·rw [q] at z;cases z
     ·have z2:=un.frzs b ob _ z
      obtain⟨e1,_⟩:=hok b _ z
      obtain⟨e2,_⟩:=hok' b _ z2
      rw [e] at e1;cases e1
      exact e2
 cases hk:K.lookup a with
 | some o =>
  -- the script is one of the module's own objects
  have e:=KX a o hk
  rw [ha] at e
  cases e
  refine core (λ _=>none) (λ _=>.inl rfl) (.inr ⟨_,vs.toArray,_,hk,rfl,rfl,rfl,by rw [List.size_toArray,lenV];exact hl,by simpa using rv⟩) (λ b u z=>by have z':(none:Option HO)=some u:=z;cases z') (λ b z=>absurd rfl z) λ z=>absurd rfl z
 | none =>
  refine core (λ b=>if b=a then some (.frz { cls:=.type "list",data:=.seq vs.toArray } (.lst (ns.map V.int))) else none) (λ b=>?_) (.inl (.inr ⟨{ cls:=.type "list",data:=.seq vs.toArray },if_pos rfl⟩)) (λ b u z=>?_) (λ b z=>?_) λ _=>hk
  ·by_cases hb:b=a
   ·exact .inr ⟨_,_,if_pos hb⟩
   ·exact .inl (if_neg hb)
  ·by_cases hb:b=a
   ·have z':=(if_pos hb).symm.trans z
    cases z'
    subst hb
    exact⟨ha,by rw [List.length_map];exact hl,vs,_,rv,ha⟩
   ·have z':=(if_neg hb).symm.trans z
    cases z'
  ·by_cases hb:b=a
   ·exact hb
   ·exact absurd (if_neg hb) z
end L2
namespace L2
open PySem PySem.Spec PyProof.Rows
theorem Aj1 {l:PySem.W.OpenLaw}{n k:Nat}{q:Program}{loose:List Str}{XP:(Str->Option Value)->Heap->Prop}{YP:World->Heap->Prop}{d:DefRec}{K:Params->PySem.W.Frag}{CX:World->CXT}{sp:World->Sp}{x:Str}
  (hn:l.most=some n) (hn2:n<=sizeLine) (hdf:d.params.defaults=[]) (hr:Room k callerA)
  (hY:∀ (w:World) (h:Heap),YP w h->(K w.params).In h)
  (F:∀ (w:World) (mg:Str->Option Value) (fa:Addr) (h:Heap),(K w.params).In h->h.Ns mainGlobals mg->mg d.name=some (.ref fa) →
   ∃ fd:FuncData,(∀ (s:Shared) (u:Value),BindsTo s fd ⟨[u],[]⟩ [(x,u)]) ∧
    ∀ base:Heap,(K w.params).In base->base.Ns mainGlobals mg->FnOk l.prog w (K w.params) mg base (CX w) k fa fd [x] (sp w))
  (hsp:∀ (w:World) (H:Hp) (a:Addr) (ns:List Int),ns.length<=n->Only H->SqL (K w.params) H a (ns.map V.int)->sp w [.ref a] H (λ v _=>v=.bl true) λ _ _ _=>False)
  (hCX:∀ (w:World) (H:Hp) (s:Shared) (e:Value) (s':Shared),CX w [] H s (λ _ _ _=>False) e s'->False) :
  PySem.W.WalkO q loose XP YP l.row.toRowW d [] (λ f vs=>PySem.call f vs):=by
 refine Att.attach_call hn hdf λ w s₀ s₁ mg mb fa o pm cd doc a vs ns G Y ho hd hcd hmg hobj hints hlen hg=>?_
 have KX:=hY w _ Y
 obtain⟨fd,hb,hF⟩:=F w mg fa _ KX G.T.g hmg
 exact Aih KX G.T.g G.T.b G.T.builtins G.T.nolimit hg hobj hints (Nat.le_trans hlen hn2) hr hF hb (λ H hO hS=>hsp w H a ns hlen hO hS) λ H e s'=>hCX w H s₁ e s'
theorem walk_ofK {l:PySem.W.OpenLaw}{n k:Nat}{q:Program}{loose:List Str}{XP:(Str->Option Value)->Heap->Prop}{YP:World->Heap->Prop}{d:DefRec}{K:Params->PySem.W.Frag}{CX:CXT}{sp:PySem.W.Frag->Sp}{x:Str}
  (hn:l.most=some n) (hn2:n<=sizeLine) (hdf:d.params.defaults=[]) (hr:Room k callerA)
  (hY:∀ (w:World) (h:Heap),YP w h->(K w.params).In h)
  (F:∀ (w:World) (mg:Str->Option Value) (fa:Addr) (h:Heap),(K w.params).In h->h.Ns mainGlobals mg->mg d.name=some (.ref fa) →
   ∃ fd:FuncData,(∀ (s:Shared) (u:Value),BindsTo s fd ⟨[u],[]⟩ [(x,u)]) ∧
    ∀ base:Heap,(K w.params).In base->base.Ns mainGlobals mg->FnOk l.prog w (K w.params) mg base CX k fa fd [x] (sp (K w.params)))
  (hsp:∀ (K:PySem.W.Frag) (H:Hp) (a:Addr) (ns:List Int),ns.length<=n->Only H->SqL K H a (ns.map V.int)->sp K [.ref a] H (λ v _=>v=.bl true) λ _ _ _=>False)
  (hCX:∀ (H:Hp) (s:Shared) (e:Value) (s':Shared),CX [] H s (λ _ _ _=>False) e s'->False) :
  PySem.W.WalkO q loose XP YP l.row.toRowW d [] (λ f vs=>PySem.call f vs) :=
 Aj1 (K:=K) (CX:=λ _=>CX) (sp:=λ w=>sp (K w.params)) hn hn2 hdf hr hY F (λ w H a ns h1 h2 h3=>hsp (K w.params) H a ns h1 h2 h3) λ _ H s e s'=>hCX H s e s'
end L2
namespace L2
open PySem PySem.Spec PyProof.Rows
noncomputable def K6 (s:Stmt):Arguments:=match s with
 | .FunctionDef _ a _ _ _ _ _ _ _ _=>a
 | _=>{ posonlyargs:=[],args:=[],vararg:=none,kwonlyargs:=[],kw_defaults:=[],kwarg:=none,defaults:=[] }
noncomputable def Gb (s:Stmt):List Stmt:=match s with
 | .FunctionDef _ _ b _ _ _ _ _ _ _=>b
 | _=>[]
noncomputable def Ah (s:Stmt):Scope:=match s with
 | .FunctionDef _ _ _ _ _ _ sc _ _ _=>sc
 | _=>{ kind:=.function,names:=[],isGenerator:=false,isCoroutine:=false }
abbrev CX0:CXT:=λ _ _ _ _ _ _=>False
abbrev E0:XK:=λ _ _ _=>False
theorem Ja {X:Cx}:Passes CX0 X E0:=λ _ _ _ _ _ _ _ h=>h.elim
structure Fun (K:PySem.W.Frag) (x qual:Str) (st:Stmt) (f:Addr) (fd:FuncData):Prop where
 ex:∃ (oc:Value) (od:Option Addr) (kV doc pm:Value) (an:Option Addr) (cdv ct:Value) (osl:Array (Option Value)),
  fd=PySem.W.fnOf x qual (K6 st) (Gb st) (Ah st) .none kV doc pm an cdv ct/\K.lookup f=some ⟨oc,od,.func fd,osl⟩/\PySem.W.codeIn K cdv qual=true
 kp:PySem.W.keepIn K (.ref f)=true
section
variable {P:Program}{w:World}{K:PySem.W.Frag}{mg:Str->Option Value}{base:Heap}
theorem Fun.ok {x qual:Str}{st:Stmt}{f:Addr}{fd:FuncData}{N ps:List Str}{k:Nat}{sp:Sp}(F:Fun K x qual st f fd) (S:FnScope N ps (Ah st)) (len:∀ vs H Q E,sp vs H Q E->vs.length=ps.length)
  (hbody:∀ (cdv:Value) (A:Around) (outer:List Env) (s:Shared) (H:Hp) (vs:List V) (Q:VK) (E:XK),Room k (A.deeper (envOfC qual (Ah st) s.heap.objs.size f cdv))->sp vs H Q E →
   ∃ t,PSs (Ajo CX0 P w K mg base N qual (Ah st) f cdv A outer s H E).nox (Gb st) t/\t { nx:=λ _ H'=>Q .non H',rt:=Q } (start N vs) H):FnOk P w K mg base CX0 (k+1) f fd ps sp:=by
 obtain⟨oc,od,kV,doc,pm,an,cdv,ct,osl,rfl,lk,hcd⟩:=F.ex
 refine Ako lk hcd S len λ A outer s H vs Q E hr hsp=>?_
 obtain⟨t,h,q⟩:=hbody cdv A outer s H vs Q E hr hsp
 exact⟨t,h.nox,q⟩
theorem Fun.binds {x qual:Str}{st:Stmt}{f:Addr}{fd:FuncData}{ps:List Str}(F:Fun K x qual st f fd)
  (h:∀ (kV doc pm:Value) (an:Option Addr) (cdv ct:Value) (us:List Value),us.length=ps.length->bindArgs (PySem.W.fnOf x qual (K6 st) (Gb st) (Ah st) .none kV doc pm an cdv ct) ⟨us,[]⟩=pure (ps.zip us)):Binds K fd ps []:=by
 obtain⟨oc,od,kV,doc,pm,an,cdv,ct,osl,rfl,lk,hcd⟩:=F.ex
 exact .all (h kV doc pm an cdv ct)
theorem Aq0 {x qual:Str}{st:Stmt}{f:Addr}{oc:Value}{od an:Option Addr}{osl:Array (Option Value)}{kV doc pm cdv ct:Value}(l:K.lookup f=some ⟨oc,od,.func (PySem.W.fnOf x qual (K6 st) (Gb st) (Ah st) .none kV doc pm an cdv ct),osl⟩)
  (c:PySem.W.codeIn K cdv qual=true) (k:PySem.W.keepIn K (.ref f)=true):Fun K x qual st f (PySem.W.fnOf x qual (K6 st) (Gb st) (Ah st) .none kV doc pm an cdv ct):=⟨⟨oc,od,kV,doc,pm,an,cdv,ct,osl,rfl,l,c⟩,k⟩
end
theorem Aa3 {A:Around}{k:Nat}(hr:Room k A):A.units+1<cLine:=Nat.lt_of_le_of_lt (Nat.add_le_add_left (by decide:1<=64) _) hr.units
theorem Vc {n:Nat}(h:n<=1000):n<sizeLine:=Nat.lt_of_le_of_lt h (by decide)
section
variable {X:Cx}
theorem pv (i:Nat) {x:Str}{pos:Pos}(hN:X.N[i]?=some x:=by rfl) (hv:Vis X.env.scope x:=by first|exact Or.inl rfl|exact Or.inr (Or.inl rfl)|exact Or.inr (Or.inr rfl)) (hd:(x == ("__debug__":Str))=false:=by decide)
  (hcd:(x == ("__classdict__":Str))=false:=by decide):PE X (.Name x pos) (Dr i):=Kl hN hv hd hcd
end
theorem Acr {A B:Prop}(h:B):if false=true then A else B:=by
 rw [if_neg Bool.false_ne_true]
 exact h
theorem Afq {A B:Prop}(h:A):if true=true then A else B:=by
 rw [if_pos rfl]
 exact h
def Same (H H':Hp):Prop:=∀ b o,H b=some o->H' b=some o
theorem Same.refl (H:Hp):Same H H:=λ _ _ h=>h
theorem Same.trans {H H1 H2:Hp}(a:Same H H1) (b:Same H1 H2):Same H H2:=λ c o h=>b c o (a c o h)
theorem Same.seq {K:PySem.W.Frag}{H H':Hp}{a:Addr}{xs:List V}(e:Same H H') (h:SqL K H a xs):SqL K H' a xs:=by
 rcases h with (h|⟨o,h⟩)|h
 ·exact .inl (.inl (e _ _ h))
 ·exact .inl (.inr ⟨o,e _ _ h⟩)
 ·exact .inr h
section
variable {κ:Type} [DecidableEq κ]
end
end L2
namespace M
open PySem PySem.W PySem.Spec PyProof.Rows L2
def NF (X:Cx) (a:Addr):Prop:=∀ o u,X.H₀ a≠some (.frz o u)
section
variable {X:Cx}{pins:List (Addr × Obj)}{σ:L2.St}{H:Hp}{s:Shared}{a:Addr}{o:Obj}{kvs:List (List Key × V)}
theorem V5 {P:Program}{w:World}{h:Heap}{b:Addr}{u:HO}(e:H a=some (.dT kvs)) (x:Ea P w H h b u):Ea P w (upd H a (.frz o (.dT kvs))) h b u :=
 x.stay (λ c v _ q=>q) (λ c q=>by rw [Al (Nv q e (λ z=>nomatch z))];exact q) λ c xs q=>by rw [Al (Nv q e (λ z=>nomatch z))];exact q
theorem Qw {P:Program}{w:World}{h:Heap}{b:Addr}{u:HO}(e:H a=some (.frz o (.dT kvs))) (x:Ea P w H h b u):Ea P w (upd H a (.dT kvs)) h b u :=
 x.stay (λ c v _ q=>q) (λ c q=>by rw [Al (Nv q e (λ z=>nomatch z))];exact q) λ c xs q=>by rw [Al (Nv q e (λ z=>nomatch z))];exact q
theorem _root_.L2.Inv.tag (I:Inv X pins σ H s) (e:H a=some (.dT kvs)) (g:s.heap.get? a=some o):Inv X pins σ (upd H a (.frz o (.dT kvs))) s/\NF X a:=by
 have nn:∀ b,H b=none->b≠a:=λ b n z=>by rw [z,e] at n;cases n
 refine⟨⟨I.ok,I.os,I.bare,⟨I.base.keep,I.base.slot,λ b ob q n hx=>?_,I.base.there,λ b xs q=>?_,λ b ob u q=>?_,λ b ps q=>?_⟩,I.loc,I.cell,?_,λ x c q=>?_,λ p hp=>?_,λ b u q=>?_,I.len⟩,λ ob u q=>?_⟩
 ·have:=I.base.free b ob q n hx
  rw [Al (nn b this)];exact this
 ·have:=I.base.tups b xs q
  rw [Al (Nv this e (λ z=>nomatch z))];exact this
 ·have:=I.base.frzs b ob u q
  rw [Al (Nv this e (λ z=>nomatch z))];exact this
 ·obtain⟨m,this⟩:=I.base.tbls b ps q
  exact⟨m,by rw [Al (Nv this e (λ z=>nomatch z))];exact this⟩
 ·rw [Al (nn _ I.free)];exact I.free
 ·have:=I.freeC x c q
  rw [Al (nn _ this)];exact this
 ·obtain⟨h1,h2,h3⟩:=I.pin p hp
  exact⟨h1,by rw [Al (nn _ h2)];exact h2,h3⟩
 ·by_cases hb:b=a
  ·subst hb
   rw [Aj] at q
   cases q
   exact⟨g,V5 e (I.hok b _ e)⟩
  ·rw [Al hb] at q
   exact V5 e (I.hok b u q)
 ·have:=I.base.frzs a ob u q
  rw [e] at this;cases this
theorem _root_.L2.Inv.untag (I:Inv X pins σ H s) (e:H a=some (.frz o (.dT kvs))) (nf:NF X a):Inv X pins σ (upd H a (.dT kvs)) s:=by
 have nn:∀ b,H b=none->b≠a:=λ b n z=>by rw [z,e] at n;cases n
 refine⟨I.ok,I.os,I.bare,⟨I.base.keep,I.base.slot,λ b ob q n hx=>?_,I.base.there,λ b xs q=>?_,λ b ob u q=>?_,λ b ps q=>?_⟩,I.loc,I.cell,?_,λ x c q=>?_,λ p hp=>?_,λ b u q=>?_,I.len⟩
 ·have:=I.base.free b ob q n hx
  rw [Al (nn b this)];exact this
 ·have:=I.base.tups b xs q
  rw [Al (Nv this e (λ z=>nomatch z))];exact this
 ·have:=I.base.frzs b ob u q
  by_cases hb:b=a
  ·subst hb;exact absurd q (nf ob u)
  ·rw [Al hb];exact this
 ·obtain⟨m,this⟩:=I.base.tbls b ps q
  exact⟨m,by rw [Al (Nv this e (λ z=>nomatch z))];exact this⟩
 ·rw [Al (nn _ I.free)];exact I.free
 ·have:=I.freeC x c q
  rw [Al (nn _ this)];exact this
 ·obtain⟨h1,h2,h3⟩:=I.pin p hp
  exact⟨h1,by rw [Al (nn _ h2)];exact h2,h3⟩
 ·by_cases hb:b=a
  ·subst hb
   rw [Aj] at q
   cases q
   exact Qw e (I.hok b _ e).2
  ·rw [Al hb] at q
   exact Qw e (I.hok b u q)
end
def Akg (X:Cx) (H H':Hp):Prop:=H'=H\/∃ a o kvs,NF X a/\H a=some (.frz o (.dT kvs))/\H'=upd H a (.dT kvs)
theorem Akg.inv {X:Cx}{pins:List (Addr × Obj)}{σ:L2.St}{H H':Hp}{s:Shared}(u:Akg X H H') (I:Inv X pins σ H s):Inv X pins σ H' s:=by
 rcases u with rfl|⟨a,o,kvs,nf,e,rfl⟩
 ·exact I
 ·exact I.untag e nf
theorem Ags {X:Cx}{e:Expr}{t:TE}(h:PE X e t):PE X e (λ σ H Q=>t σ H λ v H'=>∃ H'',Akg X H' H''/\Q v H''):=λ pins s σ H Q I q =>
 thn (h pins s σ H _ I q) λ v s' ⟨x,H',I',r,H'',u,q⟩=>⟨x,H'',u.inv I',r,q⟩
theorem Apt {X:Cx}{e:Expr}{t:TE}(h:PE X e t):PE X e (λ σ H Q=>t σ H λ v H'=>Q v H'\/∃ a ws,v=.ref a/\H' a=some (.dT ws)/\∀ o,Q v (upd H' a (.frz o (.dT ws)))):=λ pins s σ H Q I q =>
 thn (h pins s σ H _ I q) λ v s' ⟨x,H',I',r,q⟩=>by
  rcases q with q|⟨a,ws,rfl,e,q⟩
  ·exact⟨x,H',I',r,q⟩
  ·obtain⟨z,y,xs,rr,o,es,ep,h1,h2⟩:=(show Ea X.prog X.w H' s'.heap a (.dT ws) from I'.hok a _ e)
   exact⟨_,_,(I'.tag e h1).1,r,q o⟩
end M
namespace M
open PySem PySem.Spec PyProof.Rows L2
abbrev St:=L2.St
inductive D where
 | non|bl (b:Bool)|int (i:Int)|str (s:Str)
 | tup (xs:List D)|lst (xs:List D)|dic (kvs:List (List Int × D))
  | scr (ns:List Int)
instance:Inhabited D:=⟨.non⟩
mutual
noncomputable def Rp (K:PySem.W.Frag) (H:Hp) (O:Addr->Prop):D->V->Prop
 | .non,v=>v=.non
 | .bl b,v=>v=.bl b
 | .int i,v=>v=.int i
 | .str s,v=>v=.str s
 | .tup ds,v=>∃ a vs,v=.ref a/\¬ O a/\H a=some (.tup vs)/\Rps K H O ds vs
 | .lst ds,v=>∃ a vs,v=.ref a/\¬ O a/\H a=some (.lst vs)/\Rps K H O ds vs
 | .dic kvs,v=>∃ a ws,v=.ref a/\¬ O a/\(∃ o,H a=some (.frz o (.dT ws)))/\Rpk K H O kvs ws
 | .scr ns,v=>∃ a,v=.ref a/\((¬ O a/\Rd H a (.lst (ns.map V.int)))\/SqL K (λ _=>none) a (ns.map V.int))
noncomputable def Rps (K:PySem.W.Frag) (H:Hp) (O:Addr->Prop):List D->List V->Prop
 | [],vs=>vs=[]
 | d :: ds,vs=>∃ v r,vs=v :: r/\Rp K H O d v/\Rps K H O ds r
noncomputable def Rpk (K:PySem.W.Frag) (H:Hp) (O:Addr->Prop):List (List Int × D)->List (List Key × V)->Prop
 | [],ws=>ws=[]
 | kd :: r,ws=>∃ v r',ws=(kd.1.map Sum.inl,v) :: r'/\Rpq K H O kd v/\Rpk K H O r r'
noncomputable def Rpq (K:PySem.W.Frag) (H:Hp) (O:Addr->Prop):List Int × D->V->Prop
 | (_,d),v=>Rp K H O d v
end
section
variable {K:PySem.W.Frag}{H H':Hp}{O O':Addr->Prop}
mutual
theorem Rp.mono (s:Same H H') (o:∀ a,O' a->O a):∀ {d:D}{v:V},Rp K H O d v->Rp K H' O' d v
 | .non,_,h=>h
 | .bl _,_,h=>h
 | .int _,_,h=>h
 | .str _,_,h=>h
 | .tup _,_,h=>by
  unfold Rp at h ⊢
  obtain⟨a,vs,e,no,q,r⟩:=h
  exact⟨a,vs,e,λ z=>no (o a z),s _ _ q,Rps.mono s o r⟩
 | .lst _,_,h=>by
  unfold Rp at h ⊢
  obtain⟨a,vs,e,no,q,r⟩:=h
  exact⟨a,vs,e,λ z=>no (o a z),s _ _ q,Rps.mono s o r⟩
 | .dic _,_,h=>by
  unfold Rp at h ⊢
  obtain⟨a,vs,e,no,q,r⟩:=h
  exact⟨a,vs,e,λ z=>no (o a z),q.imp λ _ h=>s _ _ h,Rpk.mono s o r⟩
 | .scr _,_,h=>by
  unfold Rp at h ⊢
  obtain⟨a,e,⟨no,q⟩|q⟩:=h
  ·refine⟨a,e,.inl ⟨λ z=>no (o a z),?_⟩⟩
   rcases q with q|⟨ob,q⟩
   ·exact .inl (s _ _ q)
   ·exact .inr ⟨ob,s _ _ q⟩
  ·exact⟨a,e,.inr q⟩
theorem Rps.mono (s:Same H H') (o:∀ a,O' a->O a):∀ {ds:List D}{vs:List V},Rps K H O ds vs->Rps K H' O' ds vs
 | [],_,h=>h
 | _ :: _,_,h=>by
  unfold Rps at h ⊢
  obtain⟨v,r,e,p,q⟩:=h
  exact⟨v,r,e,Rp.mono s o p,Rps.mono s o q⟩
theorem Rpk.mono (s:Same H H') (o:∀ a,O' a->O a):∀ {ds:List (List Int × D)}{vs:List (List Key × V)},Rpk K H O ds vs->Rpk K H' O' ds vs
 | [],_,h=>h
 | (_,_) :: _,_,h=>by
  unfold Rpk at h ⊢
  obtain⟨v,r,e,p,q⟩:=h
  unfold Rpq at p ⊢
  exact⟨v,r,e,Rp.mono s o p,Rpk.mono s o q⟩
end
theorem Rp.scr {ns:List Int}{v:V}(h:Rp K H O (.scr ns) v):∃ a,v=.ref a/\SqL K H a (ns.map V.int):=by
 unfold Rp at h
 obtain⟨a,e,⟨_,q⟩|q⟩:=h
 ·exact⟨a,e,.inl q⟩
 ·exact⟨a,e,Same.seq (λ _ _ z=>by cases z) q⟩
mutual
theorem Rp.fresh {a:Addr}(n:H a=none):∀ {d:D}{v:V},Rp K H O d v->Rp K H (λ b=>O b\/b=a) d v
 | .non,_,h=>h
 | .bl _,_,h=>h
 | .int _,_,h=>h
 | .str _,_,h=>h
 | .tup _,_,h=>by
  unfold Rp at h ⊢
  obtain⟨b,vs,e,no,q,r⟩:=h
  exact⟨b,vs,e,λ z=>z.elim no λ z=>(by subst z;rw [n] at q;cases q),q,Rps.fresh n r⟩
 | .lst _,_,h=>by
  unfold Rp at h ⊢
  obtain⟨b,vs,e,no,q,r⟩:=h
  exact⟨b,vs,e,λ z=>z.elim no λ z=>(by subst z;rw [n] at q;cases q),q,Rps.fresh n r⟩
 | .dic _,_,h=>by
  unfold Rp at h ⊢
  obtain⟨b,vs,e,no,q,r⟩:=h
  exact⟨b,vs,e,λ z=>z.elim no λ z=>(by subst z;obtain⟨_,q⟩:=q;rw [n] at q;cases q),q,Rpk.fresh n r⟩
 | .scr _,_,h=>by
  unfold Rp at h ⊢
  obtain⟨b,e,⟨no,q⟩|q⟩:=h
  ·refine⟨b,e,.inl ⟨λ z=>z.elim no λ z=>?_,q⟩⟩
   subst z
   rcases q with q|⟨ob,q⟩<;>(rw [n] at q;cases q)
  ·exact⟨b,e,.inr q⟩
theorem Rps.fresh {a:Addr}(n:H a=none):∀ {ds:List D}{vs:List V},Rps K H O ds vs->Rps K H (λ b=>O b\/b=a) ds vs
 | [],_,h=>h
 | _ :: _,_,h=>by
  unfold Rps at h ⊢
  obtain⟨v,r,e,p,q⟩:=h
  exact⟨v,r,e,Rp.fresh n p,Rps.fresh n q⟩
theorem Rpk.fresh {a:Addr}(n:H a=none):∀ {ds:List (List Int × D)}{vs:List (List Key × V)},Rpk K H O ds vs->Rpk K H (λ b=>O b\/b=a) ds vs
 | [],_,h=>h
 | (_,_) :: _,_,h=>by
  unfold Rpk at h ⊢
  obtain⟨v,r,e,p,q⟩:=h
  unfold Rpq at p ⊢
  exact⟨v,r,e,Rp.fresh n p,Rpk.fresh n q⟩
end
mutual
theorem Rp.write {a:Addr}{u:HO}(n:O a):∀ {d:D}{v:V},Rp K H O d v->Rp K (upd H a u) O d v
 | .non,_,h=>h
 | .bl _,_,h=>h
 | .int _,_,h=>h
 | .str _,_,h=>h
 | .tup _,_,h=>by
  unfold Rp at h ⊢
  obtain⟨b,vs,e,no,q,r⟩:=h
  exact⟨b,vs,e,no,by rw [Al (λ z=>no (by rw [z];exact n))];exact q,Rps.write n r⟩
 | .lst _,_,h=>by
  unfold Rp at h ⊢
  obtain⟨b,vs,e,no,q,r⟩:=h
  exact⟨b,vs,e,no,by rw [Al (λ z=>no (by rw [z];exact n))];exact q,Rps.write n r⟩
 | .dic _,_,h=>by
  unfold Rp at h ⊢
  obtain⟨b,vs,e,no,q,r⟩:=h
  exact⟨b,vs,e,no,by rw [Al (λ z=>no (by rw [z];exact n))];exact q,Rpk.write n r⟩
 | .scr _,_,h=>by
  unfold Rp at h ⊢
  obtain⟨b,e,⟨no,q⟩|q⟩:=h
  ·refine⟨b,e,.inl ⟨no,?_⟩⟩
   have hb:b≠a:=λ z=>no (by rw [z];exact n)
   unfold Rd
   rw [Al hb];exact q
  ·exact⟨b,e,.inr q⟩
theorem Rps.write {a:Addr}{u:HO}(n:O a):∀ {ds:List D}{vs:List V},Rps K H O ds vs->Rps K (upd H a u) O ds vs
 | [],_,h=>h
 | _ :: _,_,h=>by
  unfold Rps at h ⊢
  obtain⟨v,r,e,p,q⟩:=h
  exact⟨v,r,e,Rp.write n p,Rps.write n q⟩
theorem Rpk.write {a:Addr}{u:HO}(n:O a):∀ {ds:List (List Int × D)}{vs:List (List Key × V)},Rpk K H O ds vs->Rpk K (upd H a u) O ds vs
 | [],_,h=>h
 | (_,_) :: _,_,h=>by
  unfold Rpk at h ⊢
  obtain⟨v,r,e,p,q⟩:=h
  unfold Rpq at p ⊢
  exact⟨v,r,e,Rp.write n p,Rpk.write n q⟩
end
mutual
theorem Rp.move (m:∀ a o,¬ O a->H a=some o->H' a=some o/\¬ O' a):∀ {d:D}{v:V},Rp K H O d v->Rp K H' O' d v
 | .non,_,h=>h
 | .bl _,_,h=>h
 | .int _,_,h=>h
 | .str _,_,h=>h
 | .tup _,_,h=>by
  unfold Rp at h ⊢
  obtain⟨b,vs,e,no,q,r⟩:=h
  exact⟨b,vs,e,(m _ _ no q).2,(m _ _ no q).1,Rps.move m r⟩
 | .lst _,_,h=>by
  unfold Rp at h ⊢
  obtain⟨b,vs,e,no,q,r⟩:=h
  exact⟨b,vs,e,(m _ _ no q).2,(m _ _ no q).1,Rps.move m r⟩
 | .dic _,_,h=>by
  unfold Rp at h ⊢
  obtain⟨b,vs,e,no,q,r⟩:=h
  exact⟨b,vs,e,(m _ _ no q.choose_spec).2,q.imp λ _ h=>(m _ _ no h).1,Rpk.move m r⟩
 | .scr _,_,h=>by
  unfold Rp at h ⊢
  obtain⟨b,e,⟨no,q⟩|q⟩:=h
  ·refine⟨b,e,.inl ?_⟩
   rcases q with q|⟨ob,q⟩
   ·exact⟨(m _ _ no q).2,.inl (m _ _ no q).1⟩
   ·exact⟨(m _ _ no q).2,.inr ⟨ob,(m _ _ no q).1⟩⟩
  ·exact⟨b,e,.inr q⟩
theorem Rps.move (m:∀ a o,¬ O a->H a=some o->H' a=some o/\¬ O' a):∀ {ds:List D}{vs:List V},Rps K H O ds vs->Rps K H' O' ds vs
 | [],_,h=>h
 | _ :: _,_,h=>by
  unfold Rps at h ⊢
  obtain⟨v,r,e,p,q⟩:=h
  exact⟨v,r,e,Rp.move m p,Rps.move m q⟩
theorem Rpk.move (m:∀ a o,¬ O a->H a=some o->H' a=some o/\¬ O' a):∀ {ds:List (List Int × D)}{vs:List (List Key × V)},Rpk K H O ds vs->Rpk K H' O' ds vs
 | [],_,h=>h
 | (_,_) :: _,_,h=>by
  unfold Rpk at h ⊢
  obtain⟨v,r,e,p,q⟩:=h
  unfold Rpq at p ⊢
  exact⟨v,r,e,Rp.move m p,Rpk.move m q⟩
end
theorem Rps.nil:Rps K H O [] []:=rfl
theorem Rps.cons {d:D}{v:V}{ds:List D}{vs:List V}(h:Rp K H O d v) (r:Rps K H O ds vs):Rps K H O (d :: ds) (v :: vs):=by
 unfold Rps;exact⟨v,vs,rfl,h,r⟩
theorem Rps.length:∀ {ds:List D}{vs:List V},Rps K H O ds vs->vs.length=ds.length
 | [],_,h=>by unfold Rps at h;subst h;rfl
 | _ :: _,_,h=>by
  unfold Rps at h
  obtain⟨v,r,rfl,p,q⟩:=h
  simp [Rps.length q]
theorem Rps.get:∀ {ds:List D}{vs:List V}{i:Nat}{d:D},Rps K H O ds vs->ds[i]?=some d->∃ v,vs[i]?=some v/\Rp K H O d v
 | [],_,_,_,_,e=>by simp at e
 | _ :: _,_,0,_,h,e=>by
  unfold Rps at h
  obtain⟨v,r,rfl,p,q⟩:=h
  simp at e;subst e
  exact⟨v,rfl,p⟩
 | _ :: _,_,i+1,_,h,e=>by
  unfold Rps at h
  obtain⟨v,r,rfl,p,q⟩:=h
  simp at e
  obtain⟨u,h1,h2⟩:=Rps.get q e
  exact⟨u,by simpa using h1,h2⟩
theorem Rps.append:∀ {ds es:List D}{vs ws:List V},Rps K H O ds vs->Rps K H O es ws->Rps K H O (ds++es) (vs++ws)
 | [],_,_,_,h,g=>by unfold Rps at h;subst h;exact g
 | _ :: _,_,_,_,h,g=>by
  unfold Rps at h
  obtain⟨v,r,rfl,p,q⟩:=h
  exact Rps.cons p (Rps.append q g)
theorem Rps.take:∀ {ds:List D}{vs:List V}(n:Nat),Rps K H O ds vs->Rps K H O (ds.take n) (vs.take n)
 | _,_,0,_=>by simp;exact Rps.nil
 | [],_,n+1,h=>by unfold Rps at h;subst h;simp;exact Rps.nil
 | _ :: _,_,n+1,h=>by
  unfold Rps at h
  obtain⟨v,r,rfl,p,q⟩:=h
  exact Rps.cons p (Rps.take n q)
theorem Rps.drop:∀ {ds:List D}{vs:List V}(n:Nat),Rps K H O ds vs->Rps K H O (ds.drop n) (vs.drop n)
 | _,_,0,h=>by simpa using h
 | [],_,n+1,h=>by unfold Rps at h;subst h;simp;exact Rps.nil
 | _ :: _,_,n+1,h=>by
  unfold Rps at h
  obtain⟨v,r,rfl,p,q⟩:=h
  simpa using Rps.drop n q
end
inductive R (α:Type) where
 | ok (a:α)|er (c:Nat)|no
noncomputable def R.bind {α β:Type}:R α->(α->R β)->R β
 | .ok a,f=>f a
 | .er c,_=>.er c
 | .no,_=>.no
instance:Monad R where
 pure:=R.ok
 bind:=R.bind
@[simp] theorem R.ok_bind {α β:Type}(a:α) (f:α->R β):(R.ok a >>= f)=f a:=rfl
@[simp] theorem R.er_bind {α β:Type}(c:Nat) (f:α->R β):(R.er c >>= f)=R.er c:=rfl
@[simp] theorem R.no_bind {α β:Type}(f:α->R β):((R.no:R α) >>= f)=R.no:=rfl
@[simp] theorem R.pure_ok {α:Type}(a:α):(pure a:R α)=R.ok a:=rfl
def Fin {α:Type}(r:R α) (p:α->Prop) (x:Nat->Prop):Prop:=match r with
 | .ok a=>p a
 | .er c=>x c
 | .no=>False
theorem Fin.bind {α β:Type}{r:R α}{f:α->R β}{p:β->Prop}{x:Nat->Prop}(h:Fin (r >>= f) p x):Fin r (λ a=>Fin (f a) p x) x:=by
 cases r<;>exact h
theorem Fin.mono {α:Type}{r:R α}{p q:α->Prop}{x:Nat->Prop}(h:Fin r p x) (f:∀ a,p a->q a):Fin r q x:=by
 cases r with
 | ok a=>exact f a h
 | er c=>exact h
 | no=>exact h
inductive Sl where
 | un|fz (d:D)|ow (d:D)
abbrev Ev:=List Sl
structure Fc where
 h0:Hp
 pr:Addr->Prop
 xc:Nat->Prop
def Ow (pr:Addr->Prop) (E:Ev) (σ:St) (a:Addr):Prop:=pr a\/∃ (i:Nat) (d:D),E[i]?=some (.ow d)/\σ[i]?=some (some (.ref a))
noncomputable def Own (K:PySem.W.Frag) (H:Hp) (O:Addr->Prop):D->Addr->Prop
 | .lst ds,a=>∃ vs,H a=some (.lst vs)/\Rps K H O ds vs
 | .dic kvs,a=>∃ ws,H a=some (.dT ws)/\Rpk K H O kvs ws
 | _,_=>False
theorem Own.mono {K:PySem.W.Frag}{H H':Hp}{O O':Addr->Prop}{d:D}{a:Addr}(s:Same H H') (o:∀ a,O' a->O a) (h:Own K H O d a):Own K H' O' d a:=by
 cases d with
 | lst ds=>obtain⟨vs,e,r⟩:=h;exact⟨vs,s _ _ e,r.mono s o⟩
 | dic ds=>obtain⟨vs,e,r⟩:=h;exact⟨vs,s _ _ e,r.mono s o⟩
 | _=>exact h
def Kr:HO->Prop
 | .tup _=>False
 | _=>True
def Sane (H:Hp) (O:Addr->Prop):Prop:=∀ a,O a->∃ o,H a=some o/\Kr o
theorem Sane.fr {H:Hp}{O:Addr->Prop}(h:Sane H O) {p:Addr}(hp:H p=none):¬ O p:=λ z=>by
 obtain⟨o,e,_⟩:=h p z
 rw [hp] at e;cases e
theorem Sane.tup {H:Hp}{O:Addr->Prop}(h:Sane H O) {p:Addr}{vs:List V}(hp:H p=some (.tup vs)):¬ O p:=λ z=>by
 obtain⟨o,e,n⟩:=h p z
 rw [hp] at e;cases e;exact n
theorem Own.there {K:PySem.W.Frag}{H:Hp}{O:Addr->Prop}{d:D}{a:Addr}(h:Own K H O d a):∃ o,H a=some o/\Kr o:=by
 cases d with
 | lst ds=>obtain⟨vs,e,r⟩:=h;exact⟨_,e,True.intro⟩
 | dic ds=>obtain⟨vs,e,r⟩:=h;exact⟨_,e,True.intro⟩
 | _=>exact h.elim
noncomputable def Akp:D->Bool
 | .dic _=>true
 | _=>false
theorem Own.rp {K:PySem.W.Frag}{H:Hp}{O:Addr->Prop}{d:D}{a:Addr}(h:Own K H O d a) (no:¬ O a) (hd:Akp d=false):Rp K H O d (.ref a):=by
 cases d with
 | lst ds=>obtain⟨vs,e,r⟩:=h;unfold Rp;exact⟨a,vs,rfl,no,e,r⟩
 | dic ds=>cases hd
 | _=>exact h.elim
section
variable {K:PySem.W.Frag}{H:Hp}{O:Addr->Prop}{a:Addr}{ob:Obj}{kvs:List (List Key × V)}
mutual
theorem Rp.tag (n:H a=some (.dT kvs)):∀ {d:D}{v:V},Rp K H O d v->Rp K (upd H a (.frz ob (.dT kvs))) O d v
 | .non,_,h=>h
 | .bl _,_,h=>h
 | .int _,_,h=>h
 | .str _,_,h=>h
 | .tup _,_,h=>by
  unfold Rp at h ⊢
  obtain⟨b,vs,e,no,q,r⟩:=h
  exact⟨b,vs,e,no,by rw [Al (λ z=>by rw [z,n] at q;cases q)];exact q,Rps.tag n r⟩
 | .lst _,_,h=>by
  unfold Rp at h ⊢
  obtain⟨b,vs,e,no,q,r⟩:=h
  exact⟨b,vs,e,no,by rw [Al (λ z=>by rw [z,n] at q;cases q)];exact q,Rps.tag n r⟩
 | .dic _,_,h=>by
  unfold Rp at h ⊢
  obtain⟨b,vs,e,no,⟨o,q⟩,r⟩:=h
  exact⟨b,vs,e,no,⟨o,by rw [Al (λ z=>by rw [z,n] at q;cases q)];exact q⟩,Rpk.tag n r⟩
 | .scr _,_,h=>by
  unfold Rp at h ⊢
  obtain⟨b,e,⟨no,q⟩|q⟩:=h
  ·refine⟨b,e,.inl ⟨no,?_⟩⟩
   have hb:b≠a:=λ z=>by
    subst z
    rcases q with q|⟨o,q⟩<;>(rw [n] at q;cases q)
   unfold Rd
   rw [Al hb];exact q
  ·exact⟨b,e,.inr q⟩
theorem Rps.tag (n:H a=some (.dT kvs)):∀ {ds:List D}{vs:List V},Rps K H O ds vs->Rps K (upd H a (.frz ob (.dT kvs))) O ds vs
 | [],_,h=>h
 | _ :: _,_,h=>by
  unfold Rps at h ⊢
  obtain⟨v,r,e,p,q⟩:=h
  exact⟨v,r,e,Rp.tag n p,Rps.tag n q⟩
theorem Rpk.tag (n:H a=some (.dT kvs)):∀ {ds:List (List Int × D)}{vs:List (List Key × V)},Rpk K H O ds vs->Rpk K (upd H a (.frz ob (.dT kvs))) O ds vs
 | [],_,h=>h
 | (_,_) :: _,_,h=>by
  unfold Rpk at h ⊢
  obtain⟨v,r,e,p,q⟩:=h
  unfold Rpq at p ⊢
  exact⟨v,r,e,Rp.tag n p,Rpk.tag n q⟩
end
end
theorem Own.tagged {K:PySem.W.Frag}{H:Hp}{O:Addr->Prop}{ds:List (List Int × D)}{a:Addr}(h:Own K H O (.dic ds) a) (no:¬ O a):∃ ws,H a=some (.dT ws)/\∀ o,Rp K (upd H a (.frz o (.dT ws))) O (.dic ds) (.ref a):=by
 obtain⟨ws,e,r⟩:=h
 refine⟨ws,e,λ o=>?_⟩
 unfold Rp
 exact⟨a,ws,rfl,no,⟨o,Aj⟩,r.tag e⟩
structure Rel (K:PySem.W.Frag) (G:Fc) (E:Ev) (σ:St) (H:Hp):Prop where
 len:E.length=σ.length
 fz:∀ (i:Nat) d,E[i]?=some (.fz d)->∃ v,σ[i]?=some (some v)/\Rp K H (Ow G.pr E σ) d v
 ow:∀ (i:Nat) d,E[i]?=some (.ow d)->∃ a,σ[i]?=some (some (.ref a))/\Own K H (Ow G.pr E σ) d a/\G.h0 a=none
 ne:∀ (i j:Nat) d e a,E[i]?=some (.ow d)->E[j]?=some (.ow e)->σ[i]?=some (some (.ref a))->σ[j]?=some (some (.ref a))->i=j
 base:Same G.h0 H
 prt:∀ a,G.pr a->∃ o,G.h0 a=some o/\Kr o
section
variable {K:PySem.W.Frag}{G:Fc}{E:Ev}{σ:St}{H H':Hp}
theorem Rel.same (r:Rel K G E σ H) (s:Same H H'):Rel K G E σ H' where
 len:=r.len
 fz:=λ i d e=>by obtain⟨v,h1,h2⟩:=r.fz i d e;exact⟨v,h1,h2.mono s λ _ z=>z⟩
 ow:=λ i d e=>by obtain⟨a,h1,h2,h3⟩:=r.ow i d e;exact⟨a,h1,h2.mono s λ _ z=>z,h3⟩
 ne:=r.ne
 base:=r.base.trans s
 prt:=r.prt
theorem Rel.owned (r:Rel K G E σ H) {a:Addr}(h:Ow G.pr E σ a):∃ o,H a=some o/\Kr o:=by
 rcases h with h|⟨i,d,h1,h2⟩
 ·obtain⟨o,e,n⟩:=r.prt a h
  exact⟨o,r.base _ _ e,n⟩
 ·obtain⟨b,e1,e2,_⟩:=r.ow i d h1
  rw [h2] at e1;cases e1
  exact e2.there
theorem Rel.fresh (r:Rel K G E σ H) {a:Addr}(h:H a=none):¬ Ow G.pr E σ a:=λ z=>by
 obtain⟨o,e,_⟩:=r.owned z
 rw [h] at e;cases e
theorem Rel.sane (r:Rel K G E σ H):Sane H (Ow G.pr E σ):=λ a h=>r.owned h
end
theorem Av {H:Hp}{p:Addr}{o:HO}(h:H p=none):Same H (upd H p o):=λ b u e=>by
 rw [Al (Bd e h)];exact e
def Rt (K:PySem.W.Frag) (H:Hp) (O:Addr->Prop) (d:D) (v:V):Prop:=Rp K H O d v\/∃ a,v=.ref a/\Own K H O d a
theorem Rt.mono {K:PySem.W.Frag}{H H':Hp}{O O':Addr->Prop}{d:D}{v:V}(s:Same H H') (o:∀ a,O' a->O a) (h:Rt K H O d v):Rt K H' O' d v:=by
 rcases h with h|⟨a,e,h⟩
 ·exact .inl (h.mono s o)
 ·exact .inr ⟨a,e,h.mono s o⟩
section
variable {K:PySem.W.Frag}{H:Hp}{O:Addr->Prop}{v:V}
theorem Rt.int {i:Int}(h:Rt K H O (.int i) v):v=.int i:=by
 rcases h with h|⟨a,e,h⟩
 ·exact h
 ·exact h.elim
theorem Rt.bl {i:Bool}(h:Rt K H O (.bl i) v):v=.bl i:=by
 rcases h with h|⟨a,e,h⟩
 ·exact h
 ·exact h.elim
theorem Rt.str {i:Str}(h:Rt K H O (.str i) v):v=.str i:=by
 rcases h with h|⟨a,e,h⟩
 ·exact h
 ·exact h.elim
theorem Rt.non (h:Rt K H O .non v):v=.non:=by
 rcases h with h|⟨a,e,h⟩
 ·exact h
 ·exact h.elim
theorem Rt.lst {ds:List D}(h:Rt K H O (.lst ds) v):∃ a vs,v=.ref a/\H a=some (.lst vs)/\Rps K H O ds vs:=by
 rcases h with h|⟨a,e,vs,q,r⟩
 ·unfold Rp at h
  obtain⟨a,vs,e,_,q,r⟩:=h
  exact⟨a,vs,e,q,r⟩
 ·exact⟨a,vs,e,q,r⟩
theorem Rt.tup {ds:List D}(h:Rt K H O (.tup ds) v):∃ a vs,v=.ref a/\H a=some (.tup vs)/\Rps K H O ds vs:=by
 rcases h with h|⟨a,e,h⟩
 ·unfold Rp at h
  obtain⟨a,vs,e,_,q,r⟩:=h
  exact⟨a,vs,e,q,r⟩
 ·exact h.elim
theorem Rt.dic {ds:List (List Int × D)}(h:Rt K H O (.dic ds) v):∃ a vs,v=.ref a/\Rd H a (.dT vs)/\Rpk K H O ds vs:=by
 rcases h with h|⟨a,e,vs,q,r⟩
 ·unfold Rp at h
  obtain⟨a,vs,e,_,q,r⟩:=h
  exact⟨a,vs,e,.inr q,r⟩
 ·exact⟨a,vs,e,.inl q,r⟩
end
abbrev EV:=Ev->R D
inductive Out where
 | nx (E:Ev)|bk (E:Ev)|ct (E:Ev)|rt (d:D)
abbrev EX:=Ev->R Out
def SE (X:Cx) (G:Fc) (e:Expr) (m:EV):Prop :=
 PE X e λ σ H Q=>∃ E,Rel X.K G E σ H/\Fin (m E) (λ d=>∀ v H',Same H H'->Rt X.K H' (Ow G.pr E σ) d v->Q v H') G.xc
def SF (X:Cx) (G:Fc) (e:Expr) (m:EV):Prop :=
 PE X e λ σ H Q=>∃ E,Rel X.K G E σ H/\Fin (m E) (λ d=>∀ v H',Same H H'->Rp X.K H' (Ow G.pr E σ) d v->Q v H') G.xc
def SN (X:Cx) (G:Fc) (e:Expr) (m:EV):Prop :=
 PE X e λ σ H Q=>∃ E,Rel X.K G E σ H/\Fin (m E) (λ d=>∀ a H',Same H H'->H a=none->Own X.K H' (λ b=>Ow G.pr E σ b\/b=a) d a->Q (.ref a) H') G.xc
def ST (X:Cx) (G:Fc) (e:Expr) (m:Ev->R Bool):Prop :=
 PT X e λ σ H Q=>∃ E,Rel X.K G E σ H/\Fin (m E) (λ b=>∀ H',Same H H'->Q b H') G.xc
def SA (X:Cx) (G:Fc) (es:List Expr) (m:Ev->R (List D)):Prop :=
 PA X es λ σ H Q=>∃ E,Rel X.K G E σ H/\Fin (m E) (λ ds=>∀ vs H',Same H H'->Rps X.K H' (Ow G.pr E σ) ds vs->Q vs H') G.xc
noncomputable def Pj (K:PySem.W.Frag) (G:Fc) (Dn:Ends):Out->Prop
 | .nx E=>∀ σ H,Rel K G E σ H->Dn.nx σ H
 | .bk E=>∀ σ H,Rel K G E σ H->Dn.bk σ H
 | .ct E=>∀ σ H,Rel K G E σ H->Dn.ct σ H
 | .rt d=>∀ v H,Same G.h0 H->Rp K H G.pr d v->Dn.rt v H
def SS (X:Cx) (G:Fc) (st:Stmt) (m:EX):Prop :=
 PS X st λ Dn σ H=>∃ E,Rel X.K G E σ H/\Fin (m E) (Pj X.K G Dn) G.xc
def SB (X:Cx) (G:Fc) (st:List Stmt) (m:EX):Prop :=
 PSs X st λ Dn σ H=>∃ E,Rel X.K G E σ H/\Fin (m E) (Pj X.K G Dn) G.xc
theorem _root_.L2.PE.imp {X:Cx}{e:Expr}{t t':TE}(h:PE X e t) (i:∀ σ H Q,t' σ H Q->t σ H Q):PE X e t':=λ pins s σ H Q I q=>h pins s σ H Q I (i σ H Q q)
theorem _root_.L2.PT.imp {X:Cx}{e:Expr}{t t':TT}(h:PT X e t) (i:∀ σ H Q,t' σ H Q->t σ H Q):PT X e t':=λ pins s σ H Q I q=>h pins s σ H Q I (i σ H Q q)
theorem _root_.L2.PA.imp {X:Cx}{e:List Expr}{t t':TA}(h:PA X e t) (i:∀ σ H Q,t' σ H Q->t σ H Q):PA X e t':=λ pos pins s σ H Q I q=>h pos pins s σ H Q I (i σ H Q q)
theorem _root_.L2.PS.imp {X:Cx}{e:Stmt}{t t':TS}(h:PS X e t) (i:∀ D σ H,t' D σ H->t D σ H):PS X e t':=λ pins s σ H Q I q=>h pins s σ H Q I (i Q σ H q)
theorem _root_.L2.PSs.imp {X:Cx}{e:List Stmt}{t t':TS}(h:PSs X e t) (i:∀ D σ H,t' D σ H->t D σ H):PSs X e t':=λ pins s σ H Q I q=>h pins s σ H Q I (i Q σ H q)
section
variable {X:Cx}{G:Fc}{e:Expr}{m:EV}
theorem SF.se (h:SF X G e m):SE X G e m:=PE.imp h λ σ H Q ⟨E,r,f⟩=>⟨E,r,f.mono λ d q v H' s p=>q v H' s (.inl p)⟩
theorem SN.sf (h:SN X G e m):SF X G e m:=PE.imp (Apt h) λ σ H Q ⟨E,r,f⟩=>⟨E,r,f.mono λ d q a H' s n p=>by
 have p':=p.mono (O':=Ow G.pr E σ) (Same.refl _) λ _ z=>.inl z
 cases hd:Akp d with
 | false=>exact .inl (q (.ref a) H' s (p'.rp (r.fresh n) hd))
 | true =>
  cases d with
  | dic ds =>
   obtain⟨ws,e,z⟩:=p'.tagged (r.fresh n)
   exact .inr ⟨a,ws,rfl,e,λ o=>q (.ref a) _ (λ b u hb=>by rw [Al (Bd hb n)];exact s _ _ hb) (z o)⟩
  | _=>cases hd⟩
theorem SN.se (h:SN X G e m):SE X G e m:=h.sf.se
theorem Qa {K:PySem.W.Frag}{H H':Hp}{O:Addr->Prop}{d:D}{v:V}(h:Rt K H O d v) (s:Same H H'):Rt K H' O d v:=h.mono s λ _ z=>z
end
noncomputable def ofO {α:Type}:Option α->R α
 | some a=>.ok a
 | none=>.no
@[simp] theorem Ark {α:Type}(a:α):ofO (some a)=.ok a:=rfl
@[simp] theorem Art {α:Type}:ofO (none:Option α)=.no:=rfl
theorem Fin.of {α:Type}{o:Option α}{p:α->Prop}{x:Nat->Prop}(h:Fin (ofO o) p x):∃ a,o=some a/\p a:=by
 cases o with
 | none=>exact h.elim
 | some a=>exact⟨a,rfl,h⟩
noncomputable def vE (i:Nat):EV:=λ E=>match E[i]? with
 | some (.fz d)=>.ok d
 | some (.ow d)=>.ok d
 | _=>.no
noncomputable def vF (i:Nat):EV:=λ E=>match E[i]? with
 | some (.fz d)=>.ok d
 | _=>.no
noncomputable def kE (d:D):EV:=λ _=>.ok d
noncomputable def e1 (f:D->Option D) (a:EV):EV:=λ E=>a E >>= λ x=>ofO (f x)
noncomputable def e2 (f:D->D->Option D) (a b:EV):EV:=λ E=>a E >>= λ x=>b E >>= λ y=>ofO (f x y)
noncomputable def Aw:Ev->R (List D):=λ _=>.ok []
noncomputable def Ab (a:EV) (r:Ev->R (List D)):Ev->R (List D):=λ E=>a E >>= λ x=>r E >>= λ xs=>.ok (x :: xs)
noncomputable def Ce (a:EV):Ev->R Bool:=λ E=>a E >>= λ d=>match d with
 | .bl b=>.ok b
 | _=>.no
section
variable {X:Cx}{G:Fc}
theorem Ae (i:Nat) {x:Str}{pos:Pos}(hN:X.N[i]?=some x:=by rfl) (hv:Vis X.env.scope x:=by first|exact Or.inl rfl|exact Or.inr (Or.inl rfl)|exact Or.inr (Or.inr rfl)) (hd:(x == ("__debug__":Str))=false:=by decide)
  (hcd:(x == ("__classdict__":Str))=false:=by decide):SE X G (.Name x pos) (vE i):=(Kl hN hv hd hcd).imp λ σ H Q z0=>z0.elim λ E z0=>z0.elim λ r f=>by
 unfold vE at f
 revert f
 cases h:E[i]? with
 | none=>exact λ f=>f.elim
 | some sl =>
  cases sl with
  | un=>exact λ f=>f.elim
  | fz d=>exact λ f=>by obtain⟨v,e,p⟩:=r.fz i d h;exact⟨v,e,f v H (Same.refl _) (.inl p)⟩
  | ow d=>exact λ f=>by obtain⟨a,e,p,_⟩:=r.ow i d h;exact⟨_,e,f _ H (Same.refl _) (.inr ⟨a,rfl,p⟩)⟩
theorem Ac (i:Nat) {x:Str}{pos:Pos}(hN:X.N[i]?=some x:=by rfl) (hv:Vis X.env.scope x:=by first|exact Or.inl rfl|exact Or.inr (Or.inl rfl)|exact Or.inr (Or.inr rfl)) (hd:(x == ("__debug__":Str))=false:=by decide)
  (hcd:(x == ("__classdict__":Str))=false:=by decide):SF X G (.Name x pos) (vF i):=(Kl hN hv hd hcd).imp λ σ H Q z0=>z0.elim λ E z0=>z0.elim λ r f=>by
 unfold vF at f
 revert f
 cases h:E[i]? with
 | none=>exact λ f=>f.elim
 | some sl =>
  cases sl with
  | un=>exact λ f=>f.elim
  | fz d=>exact λ f=>by obtain⟨v,e,p⟩:=r.fz i d h;exact⟨v,e,f v H (Same.refl _) p⟩
  | ow d=>exact λ f=>f.elim
theorem Ad {i j pos}:SF X G (.Constant (.int i) j pos) (kE (.int i)):=Cu.imp λ σ H Q z0=>z0.elim λ E z0=>z0.elim λ r f=>f _ H (Same.refl _) rfl
theorem Rg {i j pos}:SF X G (.Constant (.bool i) j pos) (kE (.bl i)):=Akk.imp λ σ H Q z0=>z0.elim λ E z0=>z0.elim λ r f=>f _ H (Same.refl _) rfl
theorem Ajr {i j pos}:SF X G (.Constant (.str i) j pos) (kE (.str i)):=Zr.imp λ σ H Q z0=>z0.elim λ E z0=>z0.elim λ r f=>f _ H (Same.refl _) rfl
theorem Aqa {j pos}:SF X G (.Constant .none j pos) (kE .non):=Aq1.imp λ σ H Q z0=>z0.elim λ E z0=>z0.elim λ r f=>f _ H (Same.refl _) rfl
theorem Akv {x:Str}{i:Int}{u:Value}{pos:Pos}(hg:Gl X x) (hm:X.mg x=some u) (r:RelV (.int i) u) (hd:(x == ("__debug__":Str))=false:=by decide):SF X G (.Name x pos) (kE (.int i)) :=
 (Ms hg hm r hd).imp λ σ H Q z0=>z0.elim λ E z0=>z0.elim λ r f=>f _ H (Same.refl _) rfl
def OpD (K:PySem.W.Frag) (r:R2) (f:D->D->Option D):Prop :=
 ∀ (H:Hp) (O:Addr->Prop) (dx dy d:D) (v w:V) (Q:VK),Sane H O->f dx dy=some d->Rt K H O dx v->Rt K H O dy w->(∀ u H',Same H H'->Rp K H' O d u->Q u H')->r v w H Q
theorem two {r:R2}{f:D->D->Option D}{ma mb:EV}{a b:Expr}{P:D->Prop}{σ:St}{H:Hp}{Q:VK}{E:Ev}(hr:Rel X.K G E σ H) (h:Fin (e2 f ma mb E) P G.xc)
  (k:∀ (H2:Hp) (dx dy d:D) (v w:V),Same H H2->f dx dy=some d->P d->Rt X.K H2 (Ow G.pr E σ) dx v->Rt X.K H2 (Ow G.pr E σ) dy w->r v w H2 Q) :
  tOp r (λ σ H Q=>∃ E,Rel X.K G E σ H/\Fin (ma E) (λ d=>∀ v H',Same H H'->Rt X.K H' (Ow G.pr E σ) d v->Q v H') G.xc)
   (λ σ H Q=>∃ E,Rel X.K G E σ H/\Fin (mb E) (λ d=>∀ v H',Same H H'->Rt X.K H' (Ow G.pr E σ) d v->Q v H') G.xc) σ H Q:=by
 refine⟨E,hr,(Fin.bind h).mono λ dx fx v H1 s1 p1=>⟨E,hr.same s1,(Fin.bind fx).mono λ dy fy w H2 s2 p2=>?_⟩⟩
 obtain⟨d,e,q⟩:=Fin.of fy
 exact k H2 dx dy d v w (s1.trans s2) e q (Qa p1 s2) p2
section
variable {a b:Expr}{ma mb:EV}{pos:Pos}{f:D->D->Option D}{r:R2}
theorem Pk {op:Operator}(ho:OpR X (binaryOp op) r) (hf:OpD X.K r f) (ha:SE X G a ma) (hb:SE X G b mb):SF X G (.BinOp a op b pos) (e2 f ma mb) :=
 (Jk ho ha hb).imp λ σ H Q z0=>z0.elim λ E z0=>z0.elim λ hr h=>two (a:=a) (b:=b) hr h λ H2 dx dy d v w s e p rv rw=>hf H2 _ dx dy d v w Q (hr.same s).sane e rv rw λ u H' s' z=>p u H' (s.trans s') z
theorem Wh {op:CmpOp}(ho:OpR X (compareOp op) r) (hf:OpD X.K r f) (ha:SE X G a ma) (hb:SE X G b mb) (hm:behindInMarks op b=false):SF X G (.Compare a [op] [b] pos) (e2 f ma mb) :=
 (Aj0 ho ha hb hm).imp λ σ H Q z0=>z0.elim λ E z0=>z0.elim λ hr h=>two (a:=a) (b:=b) hr h λ H2 dx dy d v w s e p rv rw=>hf H2 _ dx dy d v w Q (hr.same s).sane e rv rw λ u H' s' z=>p u H' (s.trans s') z
theorem Asn (hs:Tr b) (ho:IxR X r) (hf:OpD X.K r f) (ha:SE X G a ma) (hb:SE X G b mb):SF X G (.Subscript a b pos) (e2 f ma mb) :=
 (Af0 ho ha hb hs).imp λ σ H Q z0=>z0.elim λ E z0=>z0.elim λ hr h=>two (a:=a) (b:=b) hr h λ H2 dx dy d v w s e p rv rw=>hf H2 _ dx dy d v w Q (hr.same s).sane e rv rw λ u H' s' z=>p u H' (s.trans s') z
theorem P0 {op:CmpOp}(ho:OpR X (compareOp op) r) (hf:OpD X.K r f) (ha:SE X G a ma) (hb:SE X G b mb) (hm:behindInMarks op b=false):ST X G (.Compare a [op] [b] pos) (Ce (e2 f ma mb)) :=
 (Iz ho ha hb hm).imp λ σ H Q z0=>z0.elim λ E z0=>z0.elim λ hr h=>by
  refine two (a:=a) (b:=b) (P:=λ d=>Fin (match d with|.bl b=>R.ok b|_=>.no) (λ b=>∀ H',Same H H'->Q b H') G.xc) hr (Fin.bind h) λ H2 dx dy d v w s e p rv rw=>hf H2 _ dx dy d v w _ (hr.same s).sane e rv rw λ u H' s' z=>?_
  cases d with
  | bl k=>exact⟨k,z,p H' (s.trans s')⟩
  | _=>exact p.elim
theorem Gq {e:Expr}{m:EV}(h:SE X G e m) (he:∀ whole,isTrue e X.env whole=(do let v ← whole;standAt e.pos;holding [v] (truthy v)):=by intro _;rfl):ST X G e (Ce m) :=
 (Afd h he).imp λ σ H Q z0=>z0.elim λ E z0=>z0.elim λ hr f=>⟨E,hr,(Fin.bind f).mono λ d p v H' s z=>by
  cases d with
  | bl k=>exact⟨k,z.bl,p H' s⟩
  | _=>exact p.elim⟩
end
noncomputable def Asb:D->Option Bool
 | .non=>some false
 | .bl b=>some b
 | .int i=>some (i != 0)
 | .lst ds=>some (!ds.isEmpty)
 | .tup ds=>some (!ds.isEmpty)
 | _=>none
noncomputable def Atp (a:EV):Ev->R Bool:=λ E=>a E >>= λ d=>ofO (Asb d)
theorem Va {K:PySem.W.Frag}{H:Hp}{O:Addr->Prop}{ds:List D}{vs:List V}(h:Rps K H O ds vs):vs.isEmpty=ds.isEmpty:=by
 have:=h.length
 cases ds<;>cases vs<;>simp_all
theorem Aio {e:Expr}{m:EV}(h:SE X G e m) (he:∀ whole,isTrue e X.env whole=(do let v ← whole;standAt e.pos;holding [v] (truthy v)):=by intro _;rfl):ST X G e (Atp m) :=
 (Ahl h he).imp λ σ H Q z0=>z0.elim λ E z0=>z0.elim λ hr f=>⟨E,hr,(Fin.bind f).mono λ d p v H' s z=>by
  obtain⟨k,e,q⟩:=Fin.of p
  refine⟨k,?_,q H' s⟩
  cases d with
  | non=>cases z.non;cases e;rfl
  | bl b=>cases z.bl;cases e;rfl
  | int i=>cases z.int;cases e;rfl
  | str i=>cases e
  | tup ds=>obtain⟨a,vs,rfl,q1,q2⟩:=z.tup;cases e;rw [<-Va q2];exact .inr (.inl ⟨vs,SqT.of q1,rfl⟩)
  | lst ds=>obtain⟨a,vs,rfl,q1,q2⟩:=z.lst;cases e;rw [<-Va q2];exact .inl ⟨vs,SqL.of q1,rfl⟩
  | dic ds=>cases e
  | scr ds=>cases e⟩
section
variable {a b c:Expr}{ma mb:EV}{pos:Pos}{ta tb tc:Ev->R Bool}{rest:List Expr}
noncomputable def Ajx (t u:Ev->R Bool):Ev->R Bool:=λ E=>t E >>= λ k=>if k=true then u E else .ok false
noncomputable def bOr (t u:Ev->R Bool):Ev->R Bool:=λ E=>t E >>= λ k=>if k=true then .ok true else u E
noncomputable def Abq (t:Ev->R Bool):Ev->R Bool:=λ E=>t E >>= λ k=>.ok (!k)
def SW (X:Cx) (G:Fc) (e:Expr) (m:Ev->R Bool):Prop :=
 PW X e λ σ H Q=>∃ E,Rel X.K G E σ H/\Fin (m E) (λ b=>∀ H',Same H H'->Q b H') G.xc
theorem SW.st {m:Ev->R Bool}(h:SW X G a m):ST X G a m:=PW.pt h
theorem M4 (ha:ST X G a ta):SW X G (.BoolOp .And [a] pos) ta:=Alj ha
theorem Af6 (ha:ST X G a ta):SW X G (.BoolOp .Or [a] pos) ta:=Ae8 ha
theorem R5 (ha:ST X G a ta) (hb:SW X G (.BoolOp .And (b :: rest) pos) tb):SW X G (.BoolOp .And (a :: b :: rest) pos) (Ajx ta tb):=by
 rintro wh pins s σ H Q I ⟨E,hr,f⟩
 refine Anp ha hb wh pins s σ H Q I ⟨E,hr,(Fin.bind f).mono λ k p H' s'=>?_⟩
 cases k with
 | true=>exact⟨E,hr.same s',Fin.mono p λ b q H2 s2=>q H2 (s'.trans s2)⟩
 | false=>exact p H' s'
theorem Amr (ha:ST X G a ta) (hb:SW X G (.BoolOp .Or (b :: rest) pos) tb):SW X G (.BoolOp .Or (a :: b :: rest) pos) (bOr ta tb):=by
 rintro wh pins s σ H Q I ⟨E,hr,f⟩
 refine Amb ha hb wh pins s σ H Q I ⟨E,hr,(Fin.bind f).mono λ k p H' s'=>?_⟩
 cases k with
 | false=>exact⟨E,hr.same s',Fin.mono p λ b q H2 s2=>q H2 (s'.trans s2)⟩
 | true=>exact p H' s'
theorem Vj (ha:ST X G a ta):ST X G (.UnaryOp .Not a pos) (Abq ta):=(Aao ha).imp λ σ H Q ⟨E,hr,f⟩=>⟨E,hr,(Fin.bind f).mono λ k p H' s=>p H' s⟩
noncomputable def Ar0 (t u:EV):EV:=λ E=>t E >>= λ d=>match d with
 | .bl true=>u E
 | .bl false=>.ok (.bl false)
 | _=>.no
noncomputable def eOr (t u:EV):EV:=λ E=>t E >>= λ d=>match d with
 | .bl true=>.ok (.bl true)
 | .bl false=>u E
 | _=>.no
noncomputable def Awe (t:EV):EV:=λ E=>t E >>= λ d=>match d with
 | .bl k=>.ok (.bl (!k))
 | _=>.no
theorem Aiy {op}(ha:SF X G a ma):SF X G (.BoolOp op [a] pos) ma:=Apw ha
theorem Ai7 (ha:SF X G a ma) (hb:SF X G (.BoolOp .And (b :: rest) pos) mb):SF X G (.BoolOp .And (a :: b :: rest) pos) (Ar0 ma mb) :=
 (Ap3 ha hb).imp λ σ H Q z0=>z0.elim λ E z0=>z0.elim λ hr f=>⟨E,hr,(Fin.bind f).mono λ d p v H' s z=>by
  cases d with
  | bl k =>
   refine⟨k,z,?_⟩
   cases k with
   | true=>exact⟨E,hr.same s,Fin.mono p λ b q u H2 s2 y=>q u H2 (s.trans s2) y⟩
   | false=>exact p _ H' s rfl
  | _=>exact p.elim⟩
noncomputable def eIf (t:Ev->R Bool) (a b:EV):EV:=λ E=>t E >>= λ k=>if k=true then a E else b E
theorem Agv (hc:ST X G c tc) (ha:SF X G a ma) (hb:SF X G b mb):SF X G (.IfExp c a b pos) (eIf tc ma mb) :=
 (Aau hc ha hb).imp λ σ H Q z0=>z0.elim λ E z0=>z0.elim λ hr f=>⟨E,hr,(Fin.bind f).mono λ k p H' s=>by
  cases k with
  | true=>exact⟨E,hr.same s,Fin.mono p λ b q u H2 s2 y=>q u H2 (s.trans s2) y⟩
  | false=>exact⟨E,hr.same s,Fin.mono p λ b q u H2 s2 y=>q u H2 (s.trans s2) y⟩⟩
end
section
variable {e:Expr}{es:List Expr}{m:EV}{t:Ev->R (List D)}{pos:Pos}
theorem Ag:SA X G [] Aw:=Bl.imp λ σ H Q z0=>z0.elim λ E z0=>z0.elim λ hr f=>f [] H (Same.refl _) rfl
theorem Aa (he:SF X G e m) (hr:SA X G es t) (hs:starEach (e :: es) X.env=(false,eval e X.env) :: starEach es X.env:=by rfl):SA X G (e :: es) (Ab m t) :=
 (Ak he hr hs).imp λ σ H Q ⟨E,hr,f⟩=>⟨E,hr,(Fin.bind f).mono λ d fx v H1 s1 p1=>⟨E,hr.same s1,(Fin.bind fx).mono λ ds fy vs H2 s2 p2 =>
  fy (v :: vs) H2 (s1.trans s2) (Rps.cons (p1.mono s2 λ _ z=>z) p2)⟩⟩
noncomputable def Gs (t:Ev->R (List D)):EV:=λ E=>t E >>= λ ds=>if ds.length<=1000 then .ok (.tup ds) else .no
noncomputable def O8 (t:Ev->R (List D)):EV:=λ E=>t E >>= λ ds=>if ds.length<=1000 then .ok (.lst ds) else .no
theorem Bh {x1}(h:SA X G es t):SF X G (.Tuple es x1 pos) (Gs t) :=
 (Aji h).imp λ σ H Q z0=>z0.elim λ E z0=>z0.elim λ hr f=>⟨E,hr,(Fin.bind f).mono λ ds fx vs H1 s1 p1=>by
  by_cases hl:ds.length<=1000
  ·rw [if_pos hl] at fx
   refine⟨by rw [p1.length];exact Nat.le_of_lt (Vc hl),λ p hp=>fx _ _ (s1.trans (Av hp)) ?_⟩
   unfold Rp
   exact⟨p,vs,rfl,(hr.same s1).fresh hp,Aj,p1.mono (Av hp) λ _ z=>z⟩
  ·rw [if_neg hl] at fx;exact fx.elim⟩
theorem Em (h:SA X G es t):SN X G (.List es pos) (O8 t) :=
 (Aax h).imp λ σ H Q z0=>z0.elim λ E z0=>z0.elim λ hr f=>⟨E,hr,(Fin.bind f).mono λ ds fx vs H1 s1 p1=>by
  by_cases hl:ds.length<=1000
  ·rw [if_pos hl] at fx
   refine⟨by rw [p1.length];exact Nat.le_of_lt (Vc hl),λ p hp=>fx _ _ (s1.trans (Av hp)) ?_ ?_⟩
   ·cases q:H p with
    | none=>rfl
    | some o=>rw [s1 _ _ q] at hp;cases hp
   exact⟨vs,Aj,(p1.fresh hp).mono (Av hp) λ _ z=>z⟩
  ·rw [if_neg hl] at fx;exact fx.elim⟩
theorem Z7:SN X G (.Dict [] [] pos) (kE (.dic [])):=Ah8.imp λ σ H Q z0=>z0.elim λ E z0=>z0.elim λ hr f=>λ p hp=>f p _ (Av hp) hp ⟨[],Aj,rfl⟩
end
end
noncomputable def b2i (b:Bool):Int:=if b=true then 1 else 0
mutual
noncomputable def pl:Nat->D->Bool
 | _,.non=>true
 | _,.bl _=>true
 | _,.int _=>true
 | _,.str _=>true
 | 0,.tup _=>false
 | 0,.lst _=>false
 | n+1,.tup ds=>pls n ds
 | n+1,.lst ds=>pls n ds
 | _,_=>false
noncomputable def pls:Nat->List D->Bool
 | _,[]=>true
 | n,d :: ds=>pl n d && pls n ds
end
mutual
noncomputable def eqb:D->D->Bool
 | .non,.non=>true
 | .bl a,.bl b=>a == b
 | .int a,.int b=>a == b
 | .bl a,.int b=>b2i a == b
 | .int a,.bl b=>a == b2i b
 | .str a,.str b=>a == b
 | .tup as,.tup bs=>Ss as bs
 | .lst as,.lst bs=>Ss as bs
 | _,_=>false
noncomputable def Ss:List D->List D->Bool
 | [],[]=>true
 | a :: as,b :: bs=>eqb a b && Ss as bs
 | _,_=>false
end
mutual
theorem Uj:∀ (n:Nat) (d:D),pl n d=true->eqb d d=true
 | _,.non,_=>by simp [eqb]
 | _,.bl _,_=>by simp [eqb]
 | _,.int _,_=>by simp [eqb]
 | _,.str _,_=>by simp [eqb]
 | 0,.tup _,h=>by simp [pl] at h
 | 0,.lst _,h=>by simp [pl] at h
 | n+1,.tup ds,h=>by rw [eqb];rw [pl] at h;exact O2 n ds h
 | n+1,.lst ds,h=>by rw [eqb];rw [pl] at h;exact O2 n ds h
 | _,.dic _,h=>by simp [pl] at h
 | _,.scr _,h=>by simp [pl] at h
theorem O2:∀ (n:Nat) (ds:List D),pls n ds=true->Ss ds ds=true
 | _,[],_=>by simp [Ss]
 | n,d :: ds,h=>by
  rw [pls,Bool.and_eq_true] at h
  rw [Ss,Uj n d h.1,O2 n ds h.2];rfl
end
section
variable {K:PySem.W.Frag}{H:Hp}{O:Addr->Prop}
abbrev NoO:Addr->Prop:=λ _=>False
theorem Rt.any {d:D}{v:V}{n:Nat}(h:Rt K H O d v) (hp:pl n d=true):Rp K H NoO d v:=by
 rcases h with h|⟨a,rfl,h⟩
 ·exact h.mono (Same.refl _) λ _ z=>z.elim
 ·refine (h.mono (Same.refl _) λ _ z=>z.elim).rp (λ z=>z) ?_
  cases d with
  | dic ds=>simp [pl] at hp
  | _=>rfl
mutual
theorem Rp.inj:∀ {n m:Nat}{d d':D}{v:V},pl n d=true->pl m d'=true->Rp K H O d v->Rp K H O d' v->d=d'
 | n,m,.non,d',v,h,h',r,r'=>by
  unfold Rp at r;subst r
  cases d'<;>unfold Rp at r'<;>first|rfl|(cases r';done)|(obtain⟨_,_,e,_⟩:=r';cases e)|(obtain⟨_,e,_⟩:=r';cases e)
 | n,m,.bl b,d',v,h,h',r,r'=>by
  unfold Rp at r;subst r
  cases d'<;>unfold Rp at r'<;>first|(cases r';rfl)|(cases r';done)|(obtain⟨_,_,e,_⟩:=r';cases e)|(obtain⟨_,e,_⟩:=r';cases e)
 | n,m,.int b,d',v,h,h',r,r'=>by
  unfold Rp at r;subst r
  cases d'<;>unfold Rp at r'<;>first|(cases r';rfl)|(cases r';done)|(obtain⟨_,_,e,_⟩:=r';cases e)|(obtain⟨_,e,_⟩:=r';cases e)
 | n,m,.str b,d',v,h,h',r,r'=>by
  unfold Rp at r;subst r
  cases d'<;>unfold Rp at r'<;>first|(cases r';rfl)|(cases r';done)|(obtain⟨_,_,e,_⟩:=r';cases e)|(obtain⟨_,e,_⟩:=r';cases e)
 | n,m,.tup ds,d',v,h,h',r,r'=>by
  unfold Rp at r
  obtain⟨a,vs,rfl,_,q,rs⟩:=r
  cases n with
  | zero=>simp [pl] at h
  | succ n =>
  cases d' with
  | tup ds' =>
   cases m with
   | zero=>simp [pl] at h'
   | succ m =>
   unfold Rp at r'
   obtain⟨b,ws,e,_,q',rs'⟩:=r'
   cases e
   rw [q] at q';cases q'
   rw [pl] at h h'
   rw [Rps.inj h h' rs rs']
  | lst ds'=>unfold Rp at r';obtain⟨b,ws,e,_,q',rs'⟩:=r';cases e;rw [q] at q';cases q'
  | dic _=>simp [pl] at h'
  | scr _=>simp [pl] at h'
  | _=>unfold Rp at r';cases r'
 | n,m,.lst ds,d',v,h,h',r,r'=>by
  unfold Rp at r
  obtain⟨a,vs,rfl,_,q,rs⟩:=r
  cases n with
  | zero=>simp [pl] at h
  | succ n =>
  cases d' with
  | lst ds' =>
   cases m with
   | zero=>simp [pl] at h'
   | succ m =>
   unfold Rp at r'
   obtain⟨b,ws,e,_,q',rs'⟩:=r'
   cases e
   rw [q] at q';cases q'
   rw [pl] at h h'
   rw [Rps.inj h h' rs rs']
  | tup ds'=>unfold Rp at r';obtain⟨b,ws,e,_,q',rs'⟩:=r';cases e;rw [q] at q';cases q'
  | dic _=>simp [pl] at h'
  | scr _=>simp [pl] at h'
  | _=>unfold Rp at r';cases r'
 | n,m,.dic ds,d',v,h,h',r,r'=>by simp [pl] at h
 | n,m,.scr ds,d',v,h,h',r,r'=>by simp [pl] at h
theorem Rps.inj:∀ {n m:Nat}{ds ds':List D}{vs:List V},pls n ds=true->pls m ds'=true->Rps K H O ds vs->Rps K H O ds' vs->ds=ds'
 | n,m,[],ds',vs,h,h',r,r'=>by
  unfold Rps at r;subst r
  cases ds' with
  | nil=>rfl
  | cons _ _=>unfold Rps at r';obtain⟨_,_,e,_⟩:=r';cases e
 | n,m,d :: ds,ds',vs,h,h',r,r'=>by
  unfold Rps at r
  obtain⟨v,rr,rfl,p,q⟩:=r
  cases ds' with
  | nil=>unfold Rps at r';cases r'
  | cons d' ds' =>
   unfold Rps at r'
   obtain⟨v',rr',e,p',q'⟩:=r'
   cases e
   rw [pls,Bool.and_eq_true] at h h'
   rw [Rp.inj h.1 h'.1 p p',Rps.inj h.2 h'.2 q q']
end
end
theorem Jb:∀ {as bs:List D},as.length≠bs.length->Ss as bs=false
 | [],[],h=>absurd rfl h
 | [],_ :: _,_=>by simp [Ss]
 | _ :: _,[],_=>by simp [Ss]
 | a :: as,b :: bs,h=>by
  rw [Ss,Jb (λ z=>h (by simp [z]))];simp
theorem Ga:∀ {as bs:List D},as.length=bs.length->Ss as bs=(List.range as.length).all λ i=>eqb (as.getD i .non) (bs.getD i .non)
 | [],[],_=>by simp [Ss]
 | a :: as,b :: bs,h=>by
  rw [Ss,Ga (by simpa using h)]
  simp only [List.length_cons,List.range_succ_eq_map,List.all_cons,List.all_map]
  rfl
 | [],_ :: _,h=>by simp at h
 | _ :: _,[],h=>by simp at h
section
variable {X:Cx}{pins:List (Addr × Obj)}{σ:St}{H:Hp}{s:Shared}{O:Addr->Prop}
theorem Ji {ds:List D}{vs:List V}{its:List Value}(r:Rps X.K H O ds vs) (q:Vals vs its) (j:Nat) (h:j<its.length):∃ v,Rp X.K H O (ds.getD j .non) v/\RelV v its[j]:=by
 have h1:j<vs.length:=by rw [q.length];exact h
 have h2:j<ds.length:=by rw [<-r.length];exact h1
 obtain⟨v,e,p⟩:=r.get (i:=j) (d:=ds[j]) (by simp [h2])
 obtain⟨u,e2,p2⟩:=q.get e
 refine⟨v,?_,?_⟩
 ·simpa [List.getD,h2] using p
 ·rw [List.getElem?_eq_getElem h] at e2;cases e2;exact p2
theorem Dz:∀ {n:Nat}{ds:List D},pls n ds=true->∀ j,pl n (ds.getD j .non)=true
 | n,[],_,j=>by simp [pl]
 | n,d :: ds,h,0=>by rw [pls,Bool.and_eq_true] at h;exact h.1
 | n,d :: ds,h,j+1=>by rw [pls,Bool.and_eq_true] at h;exact Dz h.2 j
noncomputable def scD:D->Bool
 | .non=>true|.bl _=>true|.int _=>true|.str _=>true
 | _=>false
theorem Jm {m:Nat}{A:Around}{dx dy:D}{v w:V}{u u':Value}(I:Inv X pins σ H s) (hu:A.units<cLine) (px:scD dx=true) (py:pl m dy=true) (rx:Rp X.K H O dx v) (ry:Rp X.K H O dy w) (qx:RelV v u) (qy:RelV w u'):SeqAt.EqAt A s u u' (eqb dx dy):=by
 have two:∀ {b w},Rp X.K H O b w->(∃ es,b=.tup es)\/(∃ es,b=.lst es)->∀ {z},RelV w z->∃ a its,z=.ref a/\(((∃ es,b=.tup es)/\s.heap.IsTuple a its)\/((∃ es,b=.lst es)/\s.heap.IsList a its)):=λ {b w} r h z q=>by
  rcases h with ⟨es,rfl⟩|⟨es,rfl⟩
  ·unfold Rp at r
   obtain⟨a,vs,rfl,_,q',rs⟩:=r
   cases q
   obtain⟨its,vr,ht,hz⟩:=I.tuple (SqT.of q')
   exact⟨a,_,rfl,.inl ⟨⟨es,rfl⟩,ht⟩⟩
  ·unfold Rp at r
   obtain⟨a,vs,rfl,_,q',rs⟩:=r
   cases q
   obtain⟨its,vr,ht,hz⟩:=I.list (SqL.of q')
   exact⟨a,_,rfl,.inr ⟨⟨es,rfl⟩,ht.isList⟩⟩
 cases dx with
 | tup _=>cases px
 | lst _=>cases px
 | dic _=>cases px
 | scr _=>cases px
 | non =>
  unfold Rp at rx;subst rx;cases qx
  cases dy with
  | non=>unfold Rp at ry;subst ry;cases qy;exact SeqAt.EqAt.same _
  | bl _=>unfold Rp at ry;subst ry;cases qy;exact SeqAt.EqAt.none_bool _
  | int _=>unfold Rp at ry;subst ry;obtain⟨t,rfl⟩:=qy;exact SeqAt.EqAt.none_int _ _
  | str _=>unfold Rp at ry;subst ry;obtain⟨t,rfl⟩:=qy;exact SeqAt.EqAt.none_str _ _
  | dic _=>simp [pl] at py
  | scr _=>simp [pl] at py
  | tup es =>
   obtain⟨a,its,rfl,⟨_,ht⟩|⟨⟨_,e⟩,ht⟩⟩:=two ry (.inl ⟨_,rfl⟩) qy
   ·exact SeqAt.EqAt.none_tuple ht hu
   ·cases e
  | lst es =>
   obtain⟨a,its,rfl,⟨⟨_,e⟩,ht⟩|⟨_,ht⟩⟩:=two ry (.inr ⟨_,rfl⟩) qy
   ·cases e
   ·exact SeqAt.EqAt.none_list ht hu
 | bl _ =>
  unfold Rp at rx;subst rx;cases qx
  cases dy with
  | non=>unfold Rp at ry;subst ry;cases qy;exact SeqAt.EqAt.bool_none _
  | bl _=>unfold Rp at ry;subst ry;cases qy;exact SeqAt.EqAt.bool_bool _ _
  | int _=>unfold Rp at ry;subst ry;obtain⟨t,rfl⟩:=qy;exact SeqAt.EqAt.bool_int _ _ _
  | str _=>unfold Rp at ry;subst ry;obtain⟨t,rfl⟩:=qy;exact SeqAt.EqAt.bool_str _ _ _
  | dic _=>simp [pl] at py
  | scr _=>simp [pl] at py
  | tup es =>
   obtain⟨a,its,rfl,⟨_,ht⟩|⟨⟨_,e⟩,ht⟩⟩:=two ry (.inl ⟨_,rfl⟩) qy
   ·exact SeqAt.EqAt.bool_tuple _ ht hu
   ·cases e
  | lst es =>
   obtain⟨a,its,rfl,⟨⟨_,e⟩,ht⟩|⟨_,ht⟩⟩:=two ry (.inr ⟨_,rfl⟩) qy
   ·cases e
   ·exact SeqAt.EqAt.bool_list _ ht hu
 | int _ =>
  unfold Rp at rx;subst rx;obtain⟨t0,rfl⟩:=qx
  cases dy with
  | non=>unfold Rp at ry;subst ry;cases qy;exact SeqAt.EqAt.int_none _ _
  | bl _=>unfold Rp at ry;subst ry;cases qy;exact SeqAt.EqAt.int_bool _ _ _
  | int _=>unfold Rp at ry;subst ry;obtain⟨t,rfl⟩:=qy;exact SeqAt.EqAt.int_int _ _ _ _
  | str _=>unfold Rp at ry;subst ry;obtain⟨t,rfl⟩:=qy;exact SeqAt.EqAt.int_str _ _ _ _
  | dic _=>simp [pl] at py
  | scr _=>simp [pl] at py
  | tup es =>
   obtain⟨a,its,rfl,⟨_,ht⟩|⟨⟨_,e⟩,ht⟩⟩:=two ry (.inl ⟨_,rfl⟩) qy
   ·exact SeqAt.EqAt.int_tuple _ _ ht hu
   ·cases e
  | lst es =>
   obtain⟨a,its,rfl,⟨⟨_,e⟩,ht⟩|⟨_,ht⟩⟩:=two ry (.inr ⟨_,rfl⟩) qy
   ·cases e
   ·exact SeqAt.EqAt.int_list _ _ ht hu
 | str _ =>
  unfold Rp at rx;subst rx;obtain⟨t0,rfl⟩:=qx
  cases dy with
  | non=>unfold Rp at ry;subst ry;cases qy;exact SeqAt.EqAt.str_none _ _
  | bl _=>unfold Rp at ry;subst ry;cases qy;exact SeqAt.EqAt.str_bool _ _ _
  | int _=>unfold Rp at ry;subst ry;obtain⟨t,rfl⟩:=qy;exact SeqAt.EqAt.str_int _ _ _ _
  | str _=>unfold Rp at ry;subst ry;obtain⟨t,rfl⟩:=qy;exact SeqAt.EqAt.str_str _ _ _ _
  | dic _=>simp [pl] at py
  | scr _=>simp [pl] at py
  | tup es =>
   obtain⟨a,its,rfl,⟨_,ht⟩|⟨⟨_,e⟩,ht⟩⟩:=two ry (.inl ⟨_,rfl⟩) qy
   ·exact SeqAt.EqAt.str_tuple _ _ ht hu
   ·cases e
  | lst es =>
   obtain⟨a,its,rfl,⟨⟨_,e⟩,ht⟩|⟨_,ht⟩⟩:=two ry (.inr ⟨_,rfl⟩) qy
   ·cases e
   ·exact SeqAt.EqAt.str_list _ _ ht hu
theorem Aep:∀ (n m:Nat) (A:Around) (dx dy:D) (v w:V) (u u':Value),Inv X pins σ H s->A.units+n<cLine->pl n dx=true->pl m dy=true->Rp X.K H O dx v->Rp X.K H O dy w->RelV v u->RelV w u'->SeqAt.EqAt A s u u' (eqb dx dy):=by
 intro n
 induction n with
 | zero =>
  intro m A dx dy v w u u' I hu px py rx ry qx qy
  cases dx with
  | tup _=>simp [pl] at px
  | lst _=>simp [pl] at px
  | dic _=>simp [pl] at px
  | scr _=>simp [pl] at px
  | non=>exact Jm I (by omega) rfl py rx ry qx qy
  | bl _=>exact Jm I (by omega) rfl py rx ry qx qy
  | int _=>exact Jm I (by omega) rfl py rx ry qx qy
  | str _=>exact Jm I (by omega) rfl py rx ry qx qy
 | succ n ih =>
  intro m A dx dy v w u u' I hu px py rx ry qx qy
  cases dx with
  | dic _=>simp [pl] at px
  | scr _=>simp [pl] at px
  | non=>exact Jm I (by omega) rfl py rx ry qx qy
  | bl _=>exact Jm I (by omega) rfl py rx ry qx qy
  | int _=>exact Jm I (by omega) rfl py rx ry qx qy
  | str _=>exact Jm I (by omega) rfl py rx ry qx qy
  | tup ds =>
   have rx':=rx
   unfold Rp at rx
   obtain⟨a,vs,rfl,_,q,rs⟩:=rx
   cases qx
   obtain⟨its,vr,ht,hz⟩:=I.tuple (SqT.of q)
   have ht:s.heap.IsTuple a its.toArray:=ht
   cases dy with
   | non=>unfold Rp at ry;subst ry;cases qy;exact SeqAt.EqAt.tuple_none ht (by omega)
   | bl _=>unfold Rp at ry;subst ry;cases qy;exact SeqAt.EqAt.tuple_bool _ ht (by omega)
   | int _=>unfold Rp at ry;subst ry;obtain⟨t,rfl⟩:=qy;exact SeqAt.EqAt.tuple_int _ _ ht (by omega)
   | str _=>unfold Rp at ry;subst ry;obtain⟨t,rfl⟩:=qy;exact SeqAt.EqAt.tuple_str _ _ ht (by omega)
   | dic _=>simp [pl] at py
   | scr _=>simp [pl] at py
   | lst es =>
    unfold Rp at ry
    obtain⟨b,ws,rfl,_,q',rs'⟩:=ry
    cases qy
    obtain⟨its',vr',ht',hz'⟩:=I.list (SqL.of q')
    exact SeqAt.EqAt.tuple_list ht ht'.isList (by omega)
   | tup es =>
    cases m with
    | zero=>simp [pl] at py
    | succ m =>
    have ry':=ry
    unfold Rp at ry
    obtain⟨b,ws,rfl,_,q',rs'⟩:=ry
    cases qy
    by_cases hab:a=b
    ·subst hab
     have e:=Rp.inj px py rx' ry'
     rw [<-e,Uj _ _ px]
     exact SeqAt.EqAt.same _
    ·obtain⟨its',vr',ht',hz'⟩:=I.tuple (SqT.of q')
     have ht':s.heap.IsTuple b its'.toArray:=ht'
     rw [pl] at px py
     have l1:its.length=ds.length:=by rw [<-vr.length,rs.length]
     have l2:its'.length=es.length:=by rw [<-vr'.length,rs'.length]
     refine SeqAt.EqAt.of_refs hab ?_
     have main:=SeqAt.RcAt.tuples (A:=A) (e:=λ j=>eqb (ds.getD j .non) (es.getD j .non)) ht ht' (by omega) (λ j h1 h2=>by
      simp only [List.size_toArray] at h1 h2
      obtain⟨v1,p1,p2⟩:=Ji (X:=X) rs vr j h1
      obtain⟨v2,p3,p4⟩:=Ji (X:=X) rs' vr' j h2
      have:=ih m A.in1 (ds.getD j .non) (es.getD j .non) v1 v2 _ _ I (by rw [units_in1];omega) (Dz px j) (Dz py j) p1 p3 p2 p4
      simpa using this)
     rw [eqb]
     by_cases hl:ds.length=es.length
     ·rw [Ga hl]
      simp only [List.size_toArray,l1,l2,hl,Nat.min_self,beq_self_eq_true,Bool.and_true] at main
      rw [hl];exact main
     ·rw [Jb hl]
      simp only [List.size_toArray,l1,l2] at main
      rw [beq_eq_false_iff_ne.mpr hl,Bool.and_false] at main
      exact main
  | lst ds =>
   have rx':=rx
   unfold Rp at rx
   obtain⟨a,vs,rfl,_,q,rs⟩:=rx
   cases qx
   obtain⟨its,vr,ht,hz⟩:=I.list (SqL.of q)
   have ht:=ht.isList
   cases dy with
   | non=>unfold Rp at ry;subst ry;cases qy;exact SeqAt.EqAt.list_none ht (by omega)
   | bl _=>unfold Rp at ry;subst ry;cases qy;exact SeqAt.EqAt.list_bool _ ht (by omega)
   | int _=>unfold Rp at ry;subst ry;obtain⟨t,rfl⟩:=qy;exact SeqAt.EqAt.list_int _ _ ht (by omega)
   | str _=>unfold Rp at ry;subst ry;obtain⟨t,rfl⟩:=qy;exact SeqAt.EqAt.list_str _ _ ht (by omega)
   | dic _=>simp [pl] at py
   | scr _=>simp [pl] at py
   | tup es =>
    unfold Rp at ry
    obtain⟨b,ws,rfl,_,q',rs'⟩:=ry
    cases qy
    obtain⟨its',vr',ht',hz'⟩:=I.tuple (SqT.of q')
    exact SeqAt.EqAt.list_tuple ht ht' (by omega)
   | lst es =>
    cases m with
    | zero=>simp [pl] at py
    | succ m =>
    have ry':=ry
    unfold Rp at ry
    obtain⟨b,ws,rfl,_,q',rs'⟩:=ry
    cases qy
    by_cases hab:a=b
    ·subst hab
     have e:=Rp.inj px py rx' ry'
     rw [<-e,Uj _ _ px]
     exact SeqAt.EqAt.same _
    ·obtain⟨its',vr',ht',hz'⟩:=I.list (SqL.of q')
     have ht':=ht'.isList
     rw [pl] at px py
     have l1:its.length=ds.length:=by rw [<-vr.length,rs.length]
     have l2:its'.length=es.length:=by rw [<-vr'.length,rs'.length]
     refine SeqAt.EqAt.of_refs hab ?_
     rw [eqb]
     by_cases hl:ds.length=es.length
     ·have main:=SeqAt.RcAt.lists (A:=A) (e:=λ j=>eqb (ds.getD j .non) (es.getD j .non)) ht ht' (by simp [l1,l2,hl]) (by omega) (λ j h1 h2=>by
       simp only [List.size_toArray] at h1 h2
       obtain⟨v1,p1,p2⟩:=Ji (X:=X) rs vr j h1
       obtain⟨v2,p3,p4⟩:=Ji (X:=X) rs' vr' j h2
       have:=ih m A.in1 (ds.getD j .non) (es.getD j .non) v1 v2 _ _ I (by rw [units_in1];omega) (Dz px j) (Dz py j) p1 p3 p2 p4
       simpa using this)
      rw [Ga hl]
      simp only [List.size_toArray,l1] at main
      exact main
     ·rw [Jb hl]
      exact SeqAt.RcAt.lists_lengths ht ht' (by simp only [List.size_toArray,l1,l2];exact bne_iff_ne.mpr hl) (by omega)
end
section
variable {X:Cx}{pins:List (Addr × Obj)}{σ:St}{H:Hp}{s:Shared}{O:Addr->Prop}
theorem Aui (n m:Nat) (A:Around) (dx dy:D) (v w:V) (u u':Value) (I:Inv X pins σ H s) (hu:A.units+n<cLine) (px:pl n dx=true) (py:pl m dy=true) (rx:Rp X.K H O dx v) (ry:Rp X.K H O dy w) (qx:RelV v u) (qy:RelV w u'):SeqAt.RcAt A s u u' ((eqb dx dy)):=by
 have hu0:A.units<cLine:=by omega
 cases dx with
 | dic _=>simp [pl] at px
 | scr _=>simp [pl] at px
 | non =>
  unfold Rp at rx;subst rx;cases qx
  cases dy with
  | dic _=>simp [pl] at py
  | scr _=>simp [pl] at py
  | non =>
   unfold Rp at ry;subst ry;cases qy
   exact SeqAt.RcAt.none_none
  | bl dy =>
   unfold Rp at ry;subst ry;cases qy
   exact SeqAt.RcAt.none_bool _
  | int dy =>
   unfold Rp at ry;subst ry;obtain⟨t2,rfl⟩:=qy
   exact SeqAt.RcAt.none_int _ _
  | str dy =>
   unfold Rp at ry;subst ry;obtain⟨t2,rfl⟩:=qy
   exact SeqAt.RcAt.none_str _ _
  | tup dy =>
   unfold Rp at ry;obtain⟨a2,vs2,rfl,_,h2,rs2⟩:=ry;cases qy;obtain⟨its2,vr2,ht2,hz2⟩:=I.tuple (SqT.of h2)
   exact SeqAt.RcAt.none_tuple ht2 hu0
  | lst dy =>
   unfold Rp at ry;obtain⟨a2,vs2,rfl,_,h2,rs2⟩:=ry;cases qy;obtain⟨its2,vr2,ht2,hz2⟩:=I.list (SqL.of h2);have ht2:=ht2.isList
   exact SeqAt.RcAt.none_list ht2 hu0
 | bl dx =>
  unfold Rp at rx;subst rx;cases qx
  cases dy with
  | dic _=>simp [pl] at py
  | scr _=>simp [pl] at py
  | non =>
   unfold Rp at ry;subst ry;cases qy
   exact SeqAt.RcAt.bool_none _
  | bl dy =>
   unfold Rp at ry;subst ry;cases qy
   exact SeqAt.RcAt.bool_bool _ _
  | int dy =>
   unfold Rp at ry;subst ry;obtain⟨t2,rfl⟩:=qy
   exact SeqAt.RcAt.bool_int _ _ _
  | str dy =>
   unfold Rp at ry;subst ry;obtain⟨t2,rfl⟩:=qy
   exact SeqAt.RcAt.bool_str _ _ _
  | tup dy =>
   unfold Rp at ry;obtain⟨a2,vs2,rfl,_,h2,rs2⟩:=ry;cases qy;obtain⟨its2,vr2,ht2,hz2⟩:=I.tuple (SqT.of h2)
   exact SeqAt.RcAt.bool_tuple _ ht2 hu0
  | lst dy =>
   unfold Rp at ry;obtain⟨a2,vs2,rfl,_,h2,rs2⟩:=ry;cases qy;obtain⟨its2,vr2,ht2,hz2⟩:=I.list (SqL.of h2);have ht2:=ht2.isList
   exact SeqAt.RcAt.bool_list _ ht2 hu0
 | int dx =>
  unfold Rp at rx;subst rx;obtain⟨t1,rfl⟩:=qx
  cases dy with
  | dic _=>simp [pl] at py
  | scr _=>simp [pl] at py
  | non =>
   unfold Rp at ry;subst ry;cases qy
   exact SeqAt.RcAt.int_none _ _
  | bl dy =>
   unfold Rp at ry;subst ry;cases qy
   exact SeqAt.RcAt.int_bool _ _ _
  | int dy =>
   unfold Rp at ry;subst ry;obtain⟨t2,rfl⟩:=qy
   exact SeqAt.RcAt.int_int _ _ _ _
  | str dy =>
   unfold Rp at ry;subst ry;obtain⟨t2,rfl⟩:=qy
   exact SeqAt.RcAt.int_str _ _ _ _
  | tup dy =>
   unfold Rp at ry;obtain⟨a2,vs2,rfl,_,h2,rs2⟩:=ry;cases qy;obtain⟨its2,vr2,ht2,hz2⟩:=I.tuple (SqT.of h2)
   exact SeqAt.RcAt.int_tuple _ _ ht2 hu0
  | lst dy =>
   unfold Rp at ry;obtain⟨a2,vs2,rfl,_,h2,rs2⟩:=ry;cases qy;obtain⟨its2,vr2,ht2,hz2⟩:=I.list (SqL.of h2);have ht2:=ht2.isList
   exact SeqAt.RcAt.int_list _ _ ht2 hu0
 | str dx =>
  unfold Rp at rx;subst rx;obtain⟨t1,rfl⟩:=qx
  cases dy with
  | dic _=>simp [pl] at py
  | scr _=>simp [pl] at py
  | non =>
   unfold Rp at ry;subst ry;cases qy
   exact SeqAt.RcAt.str_none _ _
  | bl dy =>
   unfold Rp at ry;subst ry;cases qy
   exact SeqAt.RcAt.str_bool _ _ _
  | int dy =>
   unfold Rp at ry;subst ry;obtain⟨t2,rfl⟩:=qy
   exact SeqAt.RcAt.str_int _ _ _ _
  | str dy =>
   unfold Rp at ry;subst ry;obtain⟨t2,rfl⟩:=qy
   exact SeqAt.RcAt.str_str _ _ _ _
  | tup dy =>
   unfold Rp at ry;obtain⟨a2,vs2,rfl,_,h2,rs2⟩:=ry;cases qy;obtain⟨its2,vr2,ht2,hz2⟩:=I.tuple (SqT.of h2)
   exact SeqAt.RcAt.str_tuple _ _ ht2 hu0
  | lst dy =>
   unfold Rp at ry;obtain⟨a2,vs2,rfl,_,h2,rs2⟩:=ry;cases qy;obtain⟨its2,vr2,ht2,hz2⟩:=I.list (SqL.of h2);have ht2:=ht2.isList
   exact SeqAt.RcAt.str_list _ _ ht2 hu0
 | tup dx =>
  cases n with
  | zero=>simp [pl] at px
  | succ n =>
  unfold Rp at rx;obtain⟨a1,vs1,rfl,_,h1,rs1⟩:=rx;cases qx;obtain⟨its1,vr1,ht1,hz1⟩:=I.tuple (SqT.of h1)
  cases dy with
  | dic _=>simp [pl] at py
  | scr _=>simp [pl] at py
  | non =>
   unfold Rp at ry;subst ry;cases qy
   exact SeqAt.RcAt.tuple_none ht1 hu0
  | bl dy =>
   unfold Rp at ry;subst ry;cases qy
   exact SeqAt.RcAt.tuple_bool _ ht1 hu0
  | int dy =>
   unfold Rp at ry;subst ry;obtain⟨t2,rfl⟩:=qy
   exact SeqAt.RcAt.tuple_int _ _ ht1 hu0
  | str dy =>
   unfold Rp at ry;subst ry;obtain⟨t2,rfl⟩:=qy
   exact SeqAt.RcAt.tuple_str _ _ ht1 hu0
  | tup dy =>
   cases m with
   | zero=>simp [pl] at py
   | succ m =>
   unfold Rp at ry;obtain⟨a2,vs2,rfl,_,h2,rs2⟩:=ry;cases qy;obtain⟨its2,vr2,ht2,hz2⟩:=I.tuple (SqT.of h2)
   rw [pl] at px py
   have l1:its1.length=dx.length:=by rw [<-vr1.length,rs1.length]
   have l2:its2.length=dy.length:=by rw [<-vr2.length,rs2.length]
   have el:∀ j (h1:j<its1.toArray.size) (h2:j<its2.toArray.size),SeqAt.EqAt A.in1 s its1.toArray[j] its2.toArray[j] (eqb (dx.getD j .non) (dy.getD j .non)):=λ j h1 h2=>by
    simp only [List.size_toArray] at h1 h2
    obtain⟨v1,p1,p2⟩:=Ji (X:=X) rs1 vr1 j h1
    obtain⟨v2,p3,p4⟩:=Ji (X:=X) rs2 vr2 j h2
    have:=Aep n m A.in1 (dx.getD j .non) (dy.getD j .non) v1 v2 _ _ I (by rw [units_in1];omega) (Dz px j) (Dz py j) p1 p3 p2 p4
    simpa using this
   rw [eqb]
   by_cases hl:dx.length=dy.length
   ·have main:=SeqAt.RcAt.tuples (A:=A) (e:=λ j=>eqb (dx.getD j .non) (dy.getD j .non)) ht1 ht2 hu0 el
    simp only [List.size_toArray,l1,l2,hl,Nat.min_self,beq_self_eq_true,Bool.and_true] at main
    rw [Ga hl,hl];exact main
   ·have main:=SeqAt.RcAt.tuples (A:=A) (e:=λ j=>eqb (dx.getD j .non) (dy.getD j .non)) ht1 ht2 hu0 el
    rw [Jb hl]
    simp only [List.size_toArray,l1,l2] at main
    rw [beq_eq_false_iff_ne.mpr hl,Bool.and_false] at main
    exact main
  | lst dy =>
   unfold Rp at ry;obtain⟨a2,vs2,rfl,_,h2,rs2⟩:=ry;cases qy;obtain⟨its2,vr2,ht2,hz2⟩:=I.list (SqL.of h2);have ht2:=ht2.isList
   exact SeqAt.RcAt.tuple_list ht1 ht2 hu0
 | lst dx =>
  cases n with
  | zero=>simp [pl] at px
  | succ n =>
  unfold Rp at rx;obtain⟨a1,vs1,rfl,_,h1,rs1⟩:=rx;cases qx;obtain⟨its1,vr1,ht1,hz1⟩:=I.list (SqL.of h1);have ht1:=ht1.isList
  cases dy with
  | dic _=>simp [pl] at py
  | scr _=>simp [pl] at py
  | non =>
   unfold Rp at ry;subst ry;cases qy
   exact SeqAt.RcAt.list_none ht1 hu0
  | bl dy =>
   unfold Rp at ry;subst ry;cases qy
   exact SeqAt.RcAt.list_bool _ ht1 hu0
  | int dy =>
   unfold Rp at ry;subst ry;obtain⟨t2,rfl⟩:=qy
   exact SeqAt.RcAt.list_int _ _ ht1 hu0
  | str dy =>
   unfold Rp at ry;subst ry;obtain⟨t2,rfl⟩:=qy
   exact SeqAt.RcAt.list_str _ _ ht1 hu0
  | tup dy =>
   unfold Rp at ry;obtain⟨a2,vs2,rfl,_,h2,rs2⟩:=ry;cases qy;obtain⟨its2,vr2,ht2,hz2⟩:=I.tuple (SqT.of h2)
   exact SeqAt.RcAt.list_tuple ht1 ht2 hu0
  | lst dy =>
   cases m with
   | zero=>simp [pl] at py
   | succ m =>
   unfold Rp at ry;obtain⟨a2,vs2,rfl,_,h2,rs2⟩:=ry;cases qy;obtain⟨its2,vr2,ht2,hz2⟩:=I.list (SqL.of h2);have ht2:=ht2.isList
   rw [pl] at px py
   have l1:its1.length=dx.length:=by rw [<-vr1.length,rs1.length]
   have l2:its2.length=dy.length:=by rw [<-vr2.length,rs2.length]
   have el:∀ j (h1:j<its1.toArray.size) (h2:j<its2.toArray.size),SeqAt.EqAt A.in1 s its1.toArray[j] its2.toArray[j] (eqb (dx.getD j .non) (dy.getD j .non)):=λ j h1 h2=>by
    simp only [List.size_toArray] at h1 h2
    obtain⟨v1,p1,p2⟩:=Ji (X:=X) rs1 vr1 j h1
    obtain⟨v2,p3,p4⟩:=Ji (X:=X) rs2 vr2 j h2
    have:=Aep n m A.in1 (dx.getD j .non) (dy.getD j .non) v1 v2 _ _ I (by rw [units_in1];omega) (Dz px j) (Dz py j) p1 p3 p2 p4
    simpa using this
   rw [eqb]
   by_cases hl:dx.length=dy.length
   ·have main:=SeqAt.RcAt.lists (A:=A) (e:=λ j=>eqb (dx.getD j .non) (dy.getD j .non)) ht1 ht2 (by simp [l1,l2,hl]) hu0 el
    simp only [List.size_toArray,l1] at main
    rw [Ga hl];exact main
   ·rw [Jb hl]
    exact SeqAt.RcAt.lists_lengths ht1 ht2 (by simp only [List.size_toArray,l1,l2];exact bne_iff_ne.mpr hl) hu0
theorem Amq (n m:Nat) (A:Around) (dx dy:D) (v w:V) (u u':Value) (I:Inv X pins σ H s) (hu:A.units+n<cLine) (px:pl n dx=true) (py:pl m dy=true) (rx:Rp X.K H O dx v) (ry:Rp X.K H O dy w) (qx:RelV v u) (qy:RelV w u'):SeqAt.RcNeAt A s u u' (!(eqb dx dy)):=by
 have hu0:A.units<cLine:=by omega
 cases dx with
 | dic _=>simp [pl] at px
 | scr _=>simp [pl] at px
 | non =>
  unfold Rp at rx;subst rx;cases qx
  cases dy with
  | dic _=>simp [pl] at py
  | scr _=>simp [pl] at py
  | non =>
   unfold Rp at ry;subst ry;cases qy
   exact SeqAt.RcNeAt.none_none
  | bl dy =>
   unfold Rp at ry;subst ry;cases qy
   exact SeqAt.RcNeAt.none_bool _
  | int dy =>
   unfold Rp at ry;subst ry;obtain⟨t2,rfl⟩:=qy
   exact SeqAt.RcNeAt.none_int _ _
  | str dy =>
   unfold Rp at ry;subst ry;obtain⟨t2,rfl⟩:=qy
   exact SeqAt.RcNeAt.none_str _ _
  | tup dy =>
   unfold Rp at ry;obtain⟨a2,vs2,rfl,_,h2,rs2⟩:=ry;cases qy;obtain⟨its2,vr2,ht2,hz2⟩:=I.tuple (SqT.of h2)
   exact SeqAt.RcNeAt.none_tuple ht2 hu0
  | lst dy =>
   unfold Rp at ry;obtain⟨a2,vs2,rfl,_,h2,rs2⟩:=ry;cases qy;obtain⟨its2,vr2,ht2,hz2⟩:=I.list (SqL.of h2);have ht2:=ht2.isList
   exact SeqAt.RcNeAt.none_list ht2 hu0
 | bl dx =>
  unfold Rp at rx;subst rx;cases qx
  cases dy with
  | dic _=>simp [pl] at py
  | scr _=>simp [pl] at py
  | non =>
   unfold Rp at ry;subst ry;cases qy
   exact SeqAt.RcNeAt.bool_none _
  | bl dy =>
   unfold Rp at ry;subst ry;cases qy
   exact SeqAt.RcNeAt.bool_bool _ _
  | int dy =>
   unfold Rp at ry;subst ry;obtain⟨t2,rfl⟩:=qy
   exact SeqAt.RcNeAt.bool_int _ _ _
  | str dy =>
   unfold Rp at ry;subst ry;obtain⟨t2,rfl⟩:=qy
   exact SeqAt.RcNeAt.bool_str _ _ _
  | tup dy =>
   unfold Rp at ry;obtain⟨a2,vs2,rfl,_,h2,rs2⟩:=ry;cases qy;obtain⟨its2,vr2,ht2,hz2⟩:=I.tuple (SqT.of h2)
   exact SeqAt.RcNeAt.bool_tuple _ ht2 hu0
  | lst dy =>
   unfold Rp at ry;obtain⟨a2,vs2,rfl,_,h2,rs2⟩:=ry;cases qy;obtain⟨its2,vr2,ht2,hz2⟩:=I.list (SqL.of h2);have ht2:=ht2.isList
   exact SeqAt.RcNeAt.bool_list _ ht2 hu0
 | int dx =>
  unfold Rp at rx;subst rx;obtain⟨t1,rfl⟩:=qx
  cases dy with
  | dic _=>simp [pl] at py
  | scr _=>simp [pl] at py
  | non =>
   unfold Rp at ry;subst ry;cases qy
   exact SeqAt.RcNeAt.int_none _ _
  | bl dy =>
   unfold Rp at ry;subst ry;cases qy
   exact SeqAt.RcNeAt.int_bool _ _ _
  | int dy =>
   unfold Rp at ry;subst ry;obtain⟨t2,rfl⟩:=qy
   exact SeqAt.RcNeAt.int_int _ _ _ _
  | str dy =>
   unfold Rp at ry;subst ry;obtain⟨t2,rfl⟩:=qy
   exact SeqAt.RcNeAt.int_str _ _ _ _
  | tup dy =>
   unfold Rp at ry;obtain⟨a2,vs2,rfl,_,h2,rs2⟩:=ry;cases qy;obtain⟨its2,vr2,ht2,hz2⟩:=I.tuple (SqT.of h2)
   exact SeqAt.RcNeAt.int_tuple _ _ ht2 hu0
  | lst dy =>
   unfold Rp at ry;obtain⟨a2,vs2,rfl,_,h2,rs2⟩:=ry;cases qy;obtain⟨its2,vr2,ht2,hz2⟩:=I.list (SqL.of h2);have ht2:=ht2.isList
   exact SeqAt.RcNeAt.int_list _ _ ht2 hu0
 | str dx =>
  unfold Rp at rx;subst rx;obtain⟨t1,rfl⟩:=qx
  cases dy with
  | dic _=>simp [pl] at py
  | scr _=>simp [pl] at py
  | non =>
   unfold Rp at ry;subst ry;cases qy
   exact SeqAt.RcNeAt.str_none _ _
  | bl dy =>
   unfold Rp at ry;subst ry;cases qy
   exact SeqAt.RcNeAt.str_bool _ _ _
  | int dy =>
   unfold Rp at ry;subst ry;obtain⟨t2,rfl⟩:=qy
   exact SeqAt.RcNeAt.str_int _ _ _ _
  | str dy =>
   unfold Rp at ry;subst ry;obtain⟨t2,rfl⟩:=qy
   exact SeqAt.RcNeAt.str_str _ _ _ _
  | tup dy =>
   unfold Rp at ry;obtain⟨a2,vs2,rfl,_,h2,rs2⟩:=ry;cases qy;obtain⟨its2,vr2,ht2,hz2⟩:=I.tuple (SqT.of h2)
   exact SeqAt.RcNeAt.str_tuple _ _ ht2 hu0
  | lst dy =>
   unfold Rp at ry;obtain⟨a2,vs2,rfl,_,h2,rs2⟩:=ry;cases qy;obtain⟨its2,vr2,ht2,hz2⟩:=I.list (SqL.of h2);have ht2:=ht2.isList
   exact SeqAt.RcNeAt.str_list _ _ ht2 hu0
 | tup dx =>
  cases n with
  | zero=>simp [pl] at px
  | succ n =>
  unfold Rp at rx;obtain⟨a1,vs1,rfl,_,h1,rs1⟩:=rx;cases qx;obtain⟨its1,vr1,ht1,hz1⟩:=I.tuple (SqT.of h1)
  cases dy with
  | dic _=>simp [pl] at py
  | scr _=>simp [pl] at py
  | non =>
   unfold Rp at ry;subst ry;cases qy
   exact SeqAt.RcNeAt.tuple_none ht1 hu0
  | bl dy =>
   unfold Rp at ry;subst ry;cases qy
   exact SeqAt.RcNeAt.tuple_bool _ ht1 hu0
  | int dy =>
   unfold Rp at ry;subst ry;obtain⟨t2,rfl⟩:=qy
   exact SeqAt.RcNeAt.tuple_int _ _ ht1 hu0
  | str dy =>
   unfold Rp at ry;subst ry;obtain⟨t2,rfl⟩:=qy
   exact SeqAt.RcNeAt.tuple_str _ _ ht1 hu0
  | tup dy =>
   cases m with
   | zero=>simp [pl] at py
   | succ m =>
   unfold Rp at ry;obtain⟨a2,vs2,rfl,_,h2,rs2⟩:=ry;cases qy;obtain⟨its2,vr2,ht2,hz2⟩:=I.tuple (SqT.of h2)
   rw [pl] at px py
   have l1:its1.length=dx.length:=by rw [<-vr1.length,rs1.length]
   have l2:its2.length=dy.length:=by rw [<-vr2.length,rs2.length]
   have el:∀ j (h1:j<its1.toArray.size) (h2:j<its2.toArray.size),SeqAt.EqAt A.in1 s its1.toArray[j] its2.toArray[j] (eqb (dx.getD j .non) (dy.getD j .non)):=λ j h1 h2=>by
    simp only [List.size_toArray] at h1 h2
    obtain⟨v1,p1,p2⟩:=Ji (X:=X) rs1 vr1 j h1
    obtain⟨v2,p3,p4⟩:=Ji (X:=X) rs2 vr2 j h2
    have:=Aep n m A.in1 (dx.getD j .non) (dy.getD j .non) v1 v2 _ _ I (by rw [units_in1];omega) (Dz px j) (Dz py j) p1 p3 p2 p4
    simpa using this
   rw [eqb]
   by_cases hl:dx.length=dy.length
   ·have main:=SeqAt.RcNeAt.tuples (A:=A) (e:=λ j=>eqb (dx.getD j .non) (dy.getD j .non)) ht1 ht2 hu0 el
    simp only [List.size_toArray,l1,l2,hl,Nat.min_self,beq_self_eq_true,Bool.and_true] at main
    rw [Ga hl,hl];exact main
   ·have main:=SeqAt.RcNeAt.tuples (A:=A) (e:=λ j=>eqb (dx.getD j .non) (dy.getD j .non)) ht1 ht2 hu0 el
    rw [Jb hl]
    simp only [List.size_toArray,l1,l2] at main
    rw [beq_eq_false_iff_ne.mpr hl,Bool.and_false] at main
    exact main
  | lst dy =>
   unfold Rp at ry;obtain⟨a2,vs2,rfl,_,h2,rs2⟩:=ry;cases qy;obtain⟨its2,vr2,ht2,hz2⟩:=I.list (SqL.of h2);have ht2:=ht2.isList
   exact SeqAt.RcNeAt.tuple_list ht1 ht2 hu0
 | lst dx =>
  cases n with
  | zero=>simp [pl] at px
  | succ n =>
  unfold Rp at rx;obtain⟨a1,vs1,rfl,_,h1,rs1⟩:=rx;cases qx;obtain⟨its1,vr1,ht1,hz1⟩:=I.list (SqL.of h1);have ht1:=ht1.isList
  cases dy with
  | dic _=>simp [pl] at py
  | scr _=>simp [pl] at py
  | non =>
   unfold Rp at ry;subst ry;cases qy
   exact SeqAt.RcNeAt.list_none ht1 hu0
  | bl dy =>
   unfold Rp at ry;subst ry;cases qy
   exact SeqAt.RcNeAt.list_bool _ ht1 hu0
  | int dy =>
   unfold Rp at ry;subst ry;obtain⟨t2,rfl⟩:=qy
   exact SeqAt.RcNeAt.list_int _ _ ht1 hu0
  | str dy =>
   unfold Rp at ry;subst ry;obtain⟨t2,rfl⟩:=qy
   exact SeqAt.RcNeAt.list_str _ _ ht1 hu0
  | tup dy =>
   unfold Rp at ry;obtain⟨a2,vs2,rfl,_,h2,rs2⟩:=ry;cases qy;obtain⟨its2,vr2,ht2,hz2⟩:=I.tuple (SqT.of h2)
   exact SeqAt.RcNeAt.list_tuple ht1 ht2 hu0
  | lst dy =>
   cases m with
   | zero=>simp [pl] at py
   | succ m =>
   unfold Rp at ry;obtain⟨a2,vs2,rfl,_,h2,rs2⟩:=ry;cases qy;obtain⟨its2,vr2,ht2,hz2⟩:=I.list (SqL.of h2);have ht2:=ht2.isList
   rw [pl] at px py
   have l1:its1.length=dx.length:=by rw [<-vr1.length,rs1.length]
   have l2:its2.length=dy.length:=by rw [<-vr2.length,rs2.length]
   have el:∀ j (h1:j<its1.toArray.size) (h2:j<its2.toArray.size),SeqAt.EqAt A.in1 s its1.toArray[j] its2.toArray[j] (eqb (dx.getD j .non) (dy.getD j .non)):=λ j h1 h2=>by
    simp only [List.size_toArray] at h1 h2
    obtain⟨v1,p1,p2⟩:=Ji (X:=X) rs1 vr1 j h1
    obtain⟨v2,p3,p4⟩:=Ji (X:=X) rs2 vr2 j h2
    have:=Aep n m A.in1 (dx.getD j .non) (dy.getD j .non) v1 v2 _ _ I (by rw [units_in1];omega) (Dz px j) (Dz py j) p1 p3 p2 p4
    simpa using this
   rw [eqb]
   by_cases hl:dx.length=dy.length
   ·have main:=SeqAt.RcNeAt.lists (A:=A) (e:=λ j=>eqb (dx.getD j .non) (dy.getD j .non)) ht1 ht2 (by simp [l1,l2,hl]) hu0 el
    simp only [List.size_toArray,l1] at main
    rw [Ga hl];exact main
   ·rw [Jb hl]
    exact SeqAt.RcNeAt.lists_lengths ht1 ht2 (by simp only [List.size_toArray,l1,l2];exact bne_iff_ne.mpr hl) hu0
end
section
variable {X:Cx}{G:Fc}
noncomputable def Arq (K:PySem.W.Frag) (neg:Bool):R2:=λ x y H Q=>∃ dx dy,pl 4 dx=true/\pl 4 dy=true/\Rp K H NoO dx x/\Rp K H NoO dy y/\Q (.bl (if neg=true then !(eqb dx dy) else eqb dx dy)) H
theorem Ai6 (hu:X.A.units+4<cLine):OpR X (compareOp .Eq) (Arq X.K false):=by
 intro pins s σ H x y v u Q I rx ry h
 obtain⟨dx,dy,px,py,qx,qy,q⟩:=h
 exact Aui (O:=NoO) 4 4 X.A dx dy x y v u I hu px py qx qy rx ry _ _ _ _ (Bp I q rfl)
theorem Ai8 (hu:X.A.units+4<cLine):OpR X (compareOp .NotEq) (Arq X.K true):=by
 intro pins s σ H x y v u Q I rx ry h
 obtain⟨dx,dy,px,py,qx,qy,q⟩:=h
 exact Amq (O:=NoO) 4 4 X.A dx dy x y v u I hu px py qx qy rx ry _ _ _ _ (Bp I q rfl)
noncomputable def fEq (dx dy:D):Option D:=if pl 4 dx && pl 4 dy then some (.bl (eqb dx dy)) else none
noncomputable def fNe (dx dy:D):Option D:=if pl 4 dx && pl 4 dy then some (.bl (!(eqb dx dy))) else none
theorem Aog {K:PySem.W.Frag}:OpD K (Arq K false) fEq:=λ H O dx dy d v w Q fr e rx ry q=>by
 unfold fEq at e
 split at e
 ·rename_i h
  rw [Bool.and_eq_true] at h
  cases e
  exact⟨dx,dy,h.1,h.2,rx.any h.1,ry.any h.2,q _ H (Same.refl _) rfl⟩
 ·cases e
theorem Ao5 {K:PySem.W.Frag}:OpD K (Arq K true) fNe:=λ H O dx dy d v w Q fr e rx ry q=>by
 unfold fNe at e
 split at e
 ·rename_i h
  rw [Bool.and_eq_true] at h
  cases e
  exact⟨dx,dy,h.1,h.2,rx.any h.1,ry.any h.2,q _ H (Same.refl _) rfl⟩
 ·cases e
end
noncomputable def Ew:D->D->Option D
 | .int i,.int j=>some (.int (i+j))
 | .lst a,.lst b=>if a.length+b.length<=1000000 then some (.lst (a++b)) else none
 | .str a,.str b=>if a.length+b.length<=1000000 then some (.str (a++b)) else none
 | _,_=>none
noncomputable def Lw:D->D->Option D
 | .int i,.int j=>some (.int (i-j))
 | _,_=>none
noncomputable def Am8:D->D->Option D
 | .int i,.int j=>if i.natAbs<2 ^ 63\/j.natAbs<2 ^ 63 then some (.int (i * j)) else none
 | _,_=>none
noncomputable def Aix:D->D->Option D
 | .int i,.int j=>if 0<j/\j<1073741824 then some (.int (i / j)) else none
 | _,_=>none
noncomputable def Nb:D->D->Option D
 | .int i,.int j=>if 0<j then some (.int (i % j)) else none
 | _,_=>none
noncomputable def Apv:D->D->Option D
 | .int i,.int j=>if 0<=j/\j<=1000/\i.natAbs<2 ^ 63 then some (.int (i ^ j.toNat)) else none
 | _,_=>none
section
variable {K:PySem.W.Frag}
theorem V0 {C:Int->Int->Prop}{g:Int->Int->D}{gv:Int->Int->V}{f:D->D->Option D}(hf:∀ dx dy d,f dx dy=some d->∃ i j,dx=.int i/\dy=.int j/\C i j/\d=g i j) (hg:∀ i j H O,Rp K H O (g i j) (gv i j)) :
  OpD K (rI C gv) f:=λ H O dx dy d v w Q fr e rx ry q=>by
 obtain⟨i,j,rfl,rfl,c,rfl⟩:=hf _ _ _ e
 exact⟨i,j,rx.int,ry.int,c,q _ H (Same.refl _) (hg i j H O)⟩
theorem Qm {g:Int->Int->D}{gv:Int->Int->V}{f:D->D->Option D}(hf:∀ dx dy d,f dx dy=some d->∃ i j,dx=.int i/\dy=.int j/\d=g i j) (hg:∀ i j H O,Rp K H O (g i j) (gv i j)) :
  OpD K (rI0 gv) f:=λ H O dx dy d v w Q fr e rx ry q=>by
 obtain⟨i,j,rfl,rfl,rfl⟩:=hf _ _ _ e
 exact⟨i,j,rx.int,ry.int,q _ H (Same.refl _) (hg i j H O)⟩
theorem Aqi:OpD K (rI0 λ i j=>.int (i-j)) Lw:=Qm (g:=λ i j=>.int (i-j)) (λ dx dy d e=>by
 cases dx<;>cases dy<;>simp [Lw] at e
 exact⟨_,_,rfl,rfl,e.symm⟩) λ _ _ _ _=>by unfold Rp;rfl
theorem An7:OpD K (rI Am9 λ i j=>.int (i * j)) Am8:=V0 (g:=λ i j=>.int (i * j)) (λ dx dy d e=>by
 cases dx<;>cases dy<;>simp [Am8] at e
 obtain⟨c,e⟩:=e
 refine⟨_,_,rfl,rfl,?_,e.symm⟩
 unfold Am9
 omega (config:={})) λ _ _ _ _=>by unfold Rp;rfl
theorem Aox:OpD K (rI Arl λ i j=>.int (i / j)) Aix:=V0 (g:=λ i j=>.int (i / j)) (λ dx dy d e=>by
 cases dx<;>cases dy<;>simp [Aix] at e
 obtain⟨c,e⟩:=e
 exact⟨_,_,rfl,rfl,c,e.symm⟩) λ _ _ _ _=>by unfold Rp;rfl
theorem Apa:OpD K (rI (λ _ j=>0<j) λ i j=>.int (i % j)) Nb:=V0 (g:=λ i j=>.int (i % j)) (λ dx dy d e=>by
 cases dx<;>cases dy<;>simp [Nb] at e
 obtain⟨c,e⟩:=e
 exact⟨_,_,rfl,rfl,c,e.symm⟩) λ _ _ _ _=>by unfold Rp;rfl
theorem Apu:OpD K (rI Ar9 λ i j=>.int (i ^ j.toNat)) Apv:=V0 (g:=λ i j=>.int (i ^ j.toNat)) (λ dx dy d e=>by
 cases dx<;>cases dy<;>simp [Apv] at e
 obtain⟨c,e⟩:=e
 exact⟨_,_,rfl,rfl,⟨c.1,by omega,by omega⟩,e.symm⟩) λ _ _ _ _=>by unfold Rp;rfl
noncomputable def Aq7:R2:=λ x y H Q=>(rI0 λ i j=>.int (i+j)) x y H Q\/Asr x y H Q\/(∃ i j,x=.str i/\y=.str j/\i.length+j.length<=sizeLine/\Q (.str (i++j)) H)
theorem Amh {X:Cx}:OpR X (binaryOp .Add) Aq7:=Qp.or (Ai2.or Ab3)
theorem An0:OpD K Aq7 Ew:=λ H O dx dy d v w Q fr e rx ry q=>by
 cases dx with
 | int i =>
  cases dy<;>simp [Ew] at e
  exact .inl ⟨_,_,rx.int,ry.int,q _ H (Same.refl _) (by rw [<-e];unfold Rp;rfl)⟩
 | str i =>
  cases dy<;>simp [Ew] at e
  obtain⟨c,e⟩:=e
  exact .inr (.inr ⟨_,_,rx.str,ry.str,by rw [sizeLine_eq];omega,q _ H (Same.refl _) (by rw [<-e];unfold Rp;rfl)⟩)
 | lst a =>
  cases dy<;>simp [Ew] at e
  obtain⟨c,e⟩:=e
  obtain⟨l,xs,rfl,h1,r1⟩:=rx.lst
  obtain⟨l',ys,rfl,h2,r2⟩:=ry.lst
  refine .inr (.inl ⟨l,l',xs,ys,rfl,rfl,h1,h2,by rw [r1.length,r2.length,sizeLine_eq];omega,λ p hp=>q _ _ (Av hp) ?_⟩)
  subst e
  unfold Rp
  exact⟨p,_,rfl,fr.fr hp,Aj,(r1.append r2).mono (Av hp) λ _ z=>z⟩
 | _=>cases dy<;>simp [Ew] at e
noncomputable def Ay8:D->D->Option D
 | .lst a,.lst b=>if a.length+b.length<=1000000 then some (.lst (a++b)) else none
 | _,_=>none
noncomputable def Ht:List D->Option (List Int)
 | []=>some []
 | .int i :: r=>(Ht r).map (i :: ·)
 | _ :: _=>none
theorem Fl:∀ {ds:List D}{ns:List Int},Ht ds=some ns->ds=ns.map D.int
 | [],ns,h=>by simp [Ht] at h;subst h;rfl
 | .int i :: r,ns,h=>by
  simp only [Ht,Option.map_eq_some_iff] at h
  obtain⟨ms,h1,rfl⟩:=h
  rw [Fl h1];rfl
 | .non :: r,ns,h=>by simp [Ht] at h
 | .bl _ :: r,ns,h=>by simp [Ht] at h
 | .str _ :: r,ns,h=>by simp [Ht] at h
 | .tup _ :: r,ns,h=>by simp [Ht] at h
 | .lst _ :: r,ns,h=>by simp [Ht] at h
 | .dic _ :: r,ns,h=>by simp [Ht] at h
 | .scr _ :: r,ns,h=>by simp [Ht] at h
@[simp] theorem ints_map:∀ ns:List Int,Ht (ns.map D.int)=some ns
 | []=>rfl
 | n :: ns=>by simp [Ht,ints_map ns]
theorem Rps.ints {H:Hp}{O:Addr->Prop}:∀ {ns:List Int}{vs:List V},Rps K H O (ns.map D.int) vs->vs=ns.map V.int
 | [],vs,h=>by unfold Rps at h;exact h
 | n :: ns,vs,h=>by
  unfold Rps at h
  obtain⟨v,r,rfl,p,q⟩:=h
  unfold Rp at p
  rw [p,Rps.ints q];rfl
theorem Kv {H:Hp}{O:Addr->Prop}:∀ (ns:List Int),Rps K H O (ns.map D.int) (ns.map V.int)
 | []=>Rps.nil
 | n :: ns=>Rps.cons (by unfold Rp;rfl) (Kv ns)
noncomputable def fLt:D->D->Option D
 | .int i,.int j=>some (.bl (decide (i<j)))
 | .tup a,.tup b=>do let x ← Ht a;let y ← Ht b;pure (.bl (HT.lexLt x y))
 | _,_=>none
noncomputable def fLe:D->D->Option D
 | .int i,.int j=>some (.bl (decide (i<=j)))
 | _,_=>none
noncomputable def fGt:D->D->Option D
 | .int i,.int j=>some (.bl (decide (j<i)))
 | _,_=>none
noncomputable def fGe:D->D->Option D
 | .int i,.int j=>some (.bl (decide (j<=i)))
 | .tup a,.tup b=>do let x ← Ht a;let y ← Ht b;pure (.bl (!(HT.lexLt x y)))
 | _,_=>none
noncomputable def Awj (K:PySem.W.Frag):R2:=λ x y H Q=>(rI0 λ i j=>.bl (decide (i<j))) x y H Q\/Av2 K x y H Q
theorem Ajv {X:Cx}(hu:X.A.units<cLine):OpR X (compareOp .Lt) (Awj X.K):=Aex.or (Ano hu)
theorem Aqq:OpD K (Awj K) fLt:=λ H O dx dy d v w Q fr e rx ry q=>by
 cases dx with
 | int i =>
  cases dy<;>simp [fLt] at e
  exact .inl ⟨_,_,rx.int,ry.int,q _ H (Same.refl _) (by rw [<-e];unfold Rp;rfl)⟩
 | tup a =>
  cases dy<;>simp [fLt,Option.bind_eq_some_iff] at e
  obtain⟨ns,e1,ms,e2,e⟩:=e
  obtain⟨l,xs,rfl,h1,r1⟩:=rx.tup
  obtain⟨l',ys,rfl,h2,r2⟩:=ry.tup
  rw [Fl e1] at r1
  rw [Fl e2] at r2
  exact .inr ⟨l,l',ns,ms,rfl,rfl,SqT.of (by rw [<-r1.ints];exact h1),SqT.of (by rw [<-r2.ints];exact h2),q _ H (Same.refl _) (by rw [<-e];unfold Rp;rfl)⟩
 | _=>cases dy<;>simp [fLt] at e
theorem Atq:OpD K (rI0 λ i j=>.bl (decide (i<=j))) fLe:=Qm (g:=λ i j=>.bl (decide (i<=j))) (λ dx dy d e=>by
 cases dx<;>cases dy<;>simp [fLe] at e
 exact⟨_,_,rfl,rfl,e.symm⟩) λ _ _ _ _=>by unfold Rp;rfl
theorem Aqh:OpD K (rI0 λ i j=>.bl (decide (j<i))) fGt:=Qm (g:=λ i j=>.bl (decide (j<i))) (λ dx dy d e=>by
 cases dx<;>cases dy<;>simp [fGt] at e
 exact⟨_,_,rfl,rfl,e.symm⟩) λ _ _ _ _=>by unfold Rp;rfl
end
section
open PySem.SeqAt
open PySem.AutoSeq1 (wpAny_loadPart')
open PySem.MeetsSeq PySem.MeetsSeq2 PySem.MeetsSeq3
theorem Aiq (A:Around) (s:Shared) (a:Int) (t:Tok) (c:Int) (u:Tok) (prog:Program) (w:World) (E:Value->Shared->Prop) (Q:Value->Shared->Prop) (h:Q (.bool (decide (c<=a))) s) :
  wpAny (model prog w) A (richCompare .GtE (.int a t) (.int c u)) Q E s :=
 (PyProof.Rows.ge_int h:wpAny (model prog w) A (compareOp .GtE (.int a t) (.int c u)) Q E s)
theorem Ui (l b:Addr) (items items2:Array Value) (n n2:Nat) (dd dd2:Option Addr) (sl sl2:Array (Option Value)) (ns ms:List Int) (hi:IntsAre items.toList ns) (hj:IntsAre items2.toList ms) :
  Meets (Builtin.«tuple.__ge__» ⟨[.ref l,.ref b],[]⟩)
   (λ _ R s=>s.heap.get? l=some { cls:=.type "tuple",dict:=dd,data:=.seq items n,slots:=sl }/\s.heap.get? b=some { cls:=.type "tuple",dict:=dd2,data:=.seq items2 n2,slots:=sl2 } ∧
    R (.ok (.ret (.bool (!(HT.lexLt ns ms))))) s) :=
 .of_wp λ prog w A R s h=>by
  obtain⟨hp,g,d,tk,os⟩:=s;obtain⟨hl,hb,h⟩:=h
  have f2:=AutoSeq1.sub_tuple_tuple
  have z1:items.size=ns.length:=by rw [<-hi.length];simp
  have z2:items2.size=ms.length:=by rw [<-hj.length];simp
  wp_walk using wpAny_loadPart' hl,wpAny_loadPart' hb,wpAny_forIn_list _ (λ rest b s'=>b.1=none/\s'=⟨hp,g,d,tk,os⟩/\∃ (vs ws:List Value) (ns' ms':List Int),rest=vs.zip ws ∧
   IntsAre vs ns'/\IntsAre ws ms'/\ns'.length+items2.size=ms'.length+items.size/\R (.ok (.ret (.bool (!(HT.lexLt ns' ms'))))) ⟨hp,g,d,tk,os⟩) _
  case turn =>
   rintro⟨y,x⟩ rest b s' ⟨hb',rfl,vs,ws,ns',ms',hz,hvi,hwi,hlen,hR⟩
   cases hvi with
   | nil=>rw [List.zip_nil_left] at hz;cases hz
   | cons a t hvi' =>
    cases hwi with
    | nil=>rw [List.zip_nil_right] at hz;cases hz
    | cons c u hwi' =>
     rw [List.zip_cons_cons] at hz
     injection hz with hyx hrest
     injection hyx with hy hx
     subst hy hx
     rw [HT.lexLt_cons] at hR
     simp only [List.length_cons] at hlen
     obtain⟨e,he,hiff⟩:=HT.eqAt_int A.in1 ⟨hp,g,d,tk,os⟩ a t c u
     refine wpAny_bind (he prog w _ _ ?_)
     cases e with
     | true =>
      rw [if_pos (hiff.mp rfl)] at hR
      wp_walk
      exact⟨rfl,rfl,_,_,_,_,hrest,hvi',hwi',by omega,hR⟩
     | false =>
      rw [if_neg (λ q=>absurd (hiff.mpr q) Bool.false_ne_true)] at hR
      have hri:=Aiq A.in1 ⟨hp,g,d,tk,os⟩ a t c u prog w
      wp_walk using hri
      have ed:(!(decide (a<c)))=decide (c<=a):=by
       rw [Bool.eq_iff_iff];simp
      rw [ed] at hR
      exact⟨_,rfl,by simpa using hR⟩
  case fin =>
   rintro⟨b1,b2⟩ s' ⟨hb',rfl,vs,ws,ns',ms',hz,hvi,hwi,hlen,hR⟩
   simp only at hb'
   subst hb'
   have hv:(!(HT.lexLt ns' ms'))=decide (items2.size<=items.size):=by
    cases hvi with
    | nil =>
     cases hwi with
     | nil =>
      simp only [List.length_nil] at hlen
      rw [HT.lexLt_nil_nil]
      exact (decide_eq_true (by omega)).symm
     | cons c u hw =>
      simp only [List.length_nil,List.length_cons] at hlen
      rw [HT.lexLt_nil_cons]
      exact (decide_eq_false (by omega)).symm
    | cons a t hv =>
     cases hwi with
     | nil =>
      simp only [List.length_nil,List.length_cons] at hlen
      rw [HT.lexLt_cons_nil]
      exact (decide_eq_true (by omega)).symm
     | cons c u hw =>
      rw [List.zip_cons_cons] at hz
      cases hz
   rw [hv] at hR
   wp_walk
   exact⟨_,rfl,by simpa [Builtin.Tuple.tupleCompareSizes] using hR⟩
  case h =>
   exact⟨rfl,rfl,items.toList,items2.toList,ns,ms,rfl,hi,hj,by omega,h⟩
theorem Acg {prog:Program}{w:World}{A:Around}{E:Value->Shared->Prop}{s:Shared}{l b:Addr}{items items2:Array Value}{ns ms:List Int}{Q:Value->Shared->Prop}(hl:IsTup s.heap l items) (hb:IsTup s.heap b items2) (hi:IntsAre items.toList ns) (hj:IntsAre items2.toList ms)
  (hu:A.units<cLine) (h:Q (.bool (!(HT.lexLt ns ms))) s):wpAny (model prog w) A (compareOp .GtE (.ref l) (.ref b)) Q E s:=by
 obtain⟨⟨cls,dd,data,sl⟩,ho,hc,n,hd⟩:=id hl
 obtain⟨⟨cls2,dd2,data2,sl2⟩,ho2,hc2,n2,hd2⟩:=id hb
 simp only at hc hd hc2 hd2
 subst hc hd hc2 hd2
 exact richCompare_meets_room (op:=.GtE) ⟨_,ho,rfl⟩ ⟨_,ho2,rfl⟩ PySem.F.slot_tuple_ge PySem.F.entry_tuple_ge (PySem.F.args_tuple_ge_2 _ _) (Ui l b items items2 n n2 dd dd2 sl sl2 ns ms hi hj)
  ⟨ho,ho2,show Value.bool (!(HT.lexLt ns ms))≠Value.notImplemented/\Q (.bool (!(HT.lexLt ns ms))) s from ⟨(λ x=>nomatch x),h⟩⟩ hu
end
section
variable {X:Cx}{K:PySem.W.Frag}
noncomputable def Auz (K:PySem.W.Frag):R2:=λ x y H Q=>∃ a b ns ms,x=.ref a/\y=.ref b/\SqT K H a (ns.map V.int)/\SqT K H b (ms.map V.int)/\Q (.bl (!(HT.lexLt ns ms))) H
theorem Aqu (hu:X.A.units<cLine):OpR X (compareOp .GtE) (Auz X.K):=by
 intro pins s σ H x y v u Q I rx ry h
 obtain⟨a,b,ns,ms,rfl,rfl,ha,hb,q⟩:=h
 cases rx
 cases ry
 obtain⟨its,r,p,_⟩:=I.tuple ha
 obtain⟨its',r',p',_⟩:=I.tuple hb
 exact Acg p p' (intsAre_of r) (intsAre_of r') hu ⟨.bl _,H,I,rfl,q⟩
noncomputable def Awd (K:PySem.W.Frag):R2:=λ x y H Q=>(rI0 λ i j=>.bl (decide (j<=i))) x y H Q\/Auz K x y H Q
theorem Ank (hu:X.A.units<cLine):OpR X (compareOp .GtE) (Awd X.K):=Asf.or (Aqu hu)
theorem As9:OpD K (Awd K) fGe:=λ H O dx dy d v w Q fr e rx ry q=>by
 cases dx with
 | int i =>
  cases dy<;>simp [fGe] at e
  exact .inl ⟨_,_,rx.int,ry.int,q _ H (Same.refl _) (by rw [<-e];unfold Rp;rfl)⟩
 | tup a =>
  cases dy<;>simp [fGe,Option.bind_eq_some_iff] at e
  obtain⟨ns,e1,ms,e2,e⟩:=e
  obtain⟨l,xs,rfl,h1,r1⟩:=rx.tup
  obtain⟨l',ys,rfl,h2,r2⟩:=ry.tup
  rw [Fl e1] at r1
  rw [Fl e2] at r2
  exact .inr ⟨l,l',ns,ms,rfl,rfl,SqT.of (by rw [<-r1.ints];exact h1),SqT.of (by rw [<-r2.ints];exact h2),q _ H (Same.refl _) (by rw [<-e];unfold Rp;rfl)⟩
 | _=>cases dy<;>simp [fGe] at e
end
theorem Zd {n:Nat}{ds:List D}(h:pls n ds=true) {j:Nat}{d:D}(e:ds[j]?=some d):pl n d=true:=by
 have:=Dz h j
 rw [List.getD_eq_getElem?_getD,e] at this
 exact this
section
variable {X:Cx}{pins:List (Addr × Obj)}{σ:St}{H:Hp}{s:Shared}
theorem Ze {A:Around}{dx:D}{ds:List D}{x:V}{u:Value}{vs:List V}{its:List Value}(I:Inv X pins σ H s) (hu:A.units+4<cLine) (px:pl 3 dx=true) (ps:pls 3 ds=true) (rx:Rp X.K H NoO dx x) (qx:RelV x u) (rs:Rps X.K H NoO ds vs) (qs:Vals vs its) :
  ∃ e:Value->Bool,(∀ y,y∈its.toArray->SeqAt.EqAt A.in1 s y u (e y))/\its.toArray.any e=ds.any λ y=>eqb y dx:=by
 classical
 have l:its.length=ds.length:=by rw [<-qs.length,rs.length]
 have at':∀ (j:Nat) (y:Value),its[j]?=some y->∃ v d,vs[j]?=some v/\ds[j]?=some d/\RelV v y/\Rp X.K H NoO d v:=λ j y e=>by
  have hj:j<its.length:=(List.getElem?_eq_some_iff.mp e).1
  have h2:j<ds.length:=by omega (config:={})
  obtain⟨v,e1,p⟩:=rs.get (i:=j) (d:=ds[j]) (by simp [h2])
  obtain⟨z,e2,p2⟩:=qs.get e1
  rw [e] at e2;cases e2
  exact⟨v,_,e1,by simp [h2],p2,p⟩
 have same:∀ (j j':Nat) (y:Value) (d d':D),its[j]?=some y->its[j']?=some y->ds[j]?=some d->ds[j']?=some d'->d=d':=λ j j' y d d' e e' h h'=>by
  obtain⟨v,d1,_,h1,q1,r1⟩:=at' j y e
  obtain⟨v',d2,_,h2,q2,r2⟩:=at' j' y e'
  rw [h] at h1;cases h1
  rw [h'] at h2;cases h2
  cases q1.inj q2
  exact r1.inj (Zd ps h) (Zd ps h') r2
 let e:Value->Bool:=λ y=>decide (∃ (j:Nat) (d:D),its[j]?=some y/\ds[j]?=some d/\eqb d dx=true)
 have ee:∀ (j:Nat) (y:Value) (d:D),its[j]?=some y->ds[j]?=some d->e y=eqb d dx:=λ j y d h1 h2=>by
  cases q:eqb d dx with
  | true=>exact decide_eq_true ⟨j,d,h1,h2,q⟩
  | false =>
   refine decide_eq_false ?_
   rintro⟨j',d',h1',h2',q'⟩
   rw [same j j' y d d' h1 h1' h2 h2',q'] at q;cases q
 refine⟨e,λ y hy=>?_,?_⟩
 ·have hy:y∈its:=by simpa using hy
  obtain⟨j,hj⟩:=List.getElem?_of_mem hy
  obtain⟨v,d,h1,h2,q1,r1⟩:=at' j y hj
  rw [ee j y d hj h2]
  exact Aep (O:=NoO) 3 3 A.in1 d dx v x y u I (by rw [units_in1];omega (config:={})) (Zd ps h2) px r1 rx q1 qx
 ·rw [List.any_toArray,Bool.eq_iff_iff,List.any_eq_true,List.any_eq_true]
  constructor
  ·rintro⟨y,hy,q⟩
   obtain⟨j,hj⟩:=List.getElem?_of_mem hy
   obtain⟨v,d,h1,h2,q1,r1⟩:=at' j y hj
   rw [ee j y d hj h2] at q
   exact⟨d,List.mem_of_getElem? h2,q⟩
  ·rintro⟨d,hd,q⟩
   obtain⟨j,hj⟩:=List.getElem?_of_mem hd
   have h2:j<its.length:=by rw [l];exact (List.getElem?_eq_some_iff.mp hj).1
   refine⟨its[j],List.getElem_mem h2,?_⟩
   rw [ee j _ d (by simp [h2]) hj];exact q
end
noncomputable def Ar8 (K:PySem.W.Frag) (neg:Bool):R2:=λ x y H Q=>∃ dx ds p vs,pl 3 dx=true/\pls 3 ds=true/\y=.ref p/\Rp K H NoO dx x/\(H p=some (.lst vs)\/H p=some (.tup vs))/\Rps K H NoO ds vs ∧
 Q (.bl (if neg=true then !(ds.any λ y=>eqb y dx) else ds.any λ y=>eqb y dx)) H
section
variable {X:Cx}{K:PySem.W.Frag}
theorem Ajj (hu:X.A.units+4<cLine):OpR X (compareOp .In) (Ar8 X.K false):=by
 intro pins s σ H x y v u Q I rx ry h
 obtain⟨dx,ds,p,vs,px,ps,rfl,qx,h2,rs,q⟩:=h
 cases ry
 rcases h2 with h2|h2
 ·obtain⟨its,vr,ht,hz⟩:=I.list (SqL.of h2)
  obtain⟨e,he,ha⟩:=Ze (A:=X.A) I hu px ps qx rx rs vr
  exact SeqAt.in_listAt e ht.isList he (by rw [ha];exact Bp I q rfl)
 ·obtain⟨its,vr,ht,hz⟩:=I.tuple (SqT.of h2)
  obtain⟨e,he,ha⟩:=Ze (A:=X.A) I hu px ps qx rx rs vr
  exact SeqAt.in_tupleAt e ht he (by rw [ha];exact Bp I q rfl)
theorem Ae2 (hu:X.A.units+4<cLine):OpR X (compareOp .NotIn) (Ar8 X.K true):=by
 intro pins s σ H x y v u Q I rx ry h
 obtain⟨dx,ds,p,vs,px,ps,rfl,qx,h2,rs,q⟩:=h
 cases ry
 rcases h2 with h2|h2
 ·obtain⟨its,vr,ht,hz⟩:=I.list (SqL.of h2)
  obtain⟨e,he,ha⟩:=Ze (A:=X.A) I hu px ps qx rx rs vr
  exact SeqAt.notIn_listAt e ht.isList he (by rw [ha];exact Bp I q rfl)
 ·obtain⟨its,vr,ht,hz⟩:=I.tuple (SqT.of h2)
  obtain⟨e,he,ha⟩:=Ze (A:=X.A) I hu px ps qx rx rs vr
  exact SeqAt.notIn_tupleAt e ht he (by rw [ha];exact Bp I q rfl)
noncomputable def fIn:D->D->Option D
 | x,.lst ds=>if pl 3 x && pls 3 ds then some (.bl (ds.any λ y=>eqb y x)) else none
 | x,.tup ds=>if pl 3 x && pls 3 ds then some (.bl (ds.any λ y=>eqb y x)) else none
 | _,_=>none
noncomputable def Rw:D->D->Option D
 | x,.lst ds=>if pl 3 x && pls 3 ds then some (.bl (!(ds.any λ y=>eqb y x))) else none
 | x,.tup ds=>if pl 3 x && pls 3 ds then some (.bl (!(ds.any λ y=>eqb y x))) else none
 | _,_=>none
theorem Ara:OpD K (Ar8 K false) fIn:=λ H O dx dy d v w Q fr e rx ry q=>by
 unfold fIn at e
 split at e
 ·split at e
  ·rename_i h
   rw [Bool.and_eq_true] at h
   cases e
   obtain⟨p,vs,rfl,h1,r1⟩:=ry.lst
   exact⟨dx,_,p,vs,h.1,h.2,rfl,rx.any h.1,.inl h1,r1.mono (Same.refl _) λ _ z=>z.elim,q _ H (Same.refl _) rfl⟩
  ·cases e
 ·split at e
  ·rename_i h
   rw [Bool.and_eq_true] at h
   cases e
   obtain⟨p,vs,rfl,h1,r1⟩:=ry.tup
   exact⟨dx,_,p,vs,h.1,h.2,rfl,rx.any h.1,.inr h1,r1.mono (Same.refl _) λ _ z=>z.elim,q _ H (Same.refl _) rfl⟩
  ·cases e
 ·cases e
theorem Ahe:OpD K (Ar8 K true) Rw:=λ H O dx dy d v w Q fr e rx ry q=>by
 unfold Rw at e
 split at e
 ·split at e
  ·rename_i h
   rw [Bool.and_eq_true] at h
   cases e
   obtain⟨p,vs,rfl,h1,r1⟩:=ry.lst
   exact⟨dx,_,p,vs,h.1,h.2,rfl,rx.any h.1,.inl h1,r1.mono (Same.refl _) λ _ z=>z.elim,q _ H (Same.refl _) rfl⟩
  ·cases e
 ·split at e
  ·rename_i h
   rw [Bool.and_eq_true] at h
   cases e
   obtain⟨p,vs,rfl,h1,r1⟩:=ry.tup
   exact⟨dx,_,p,vs,h.1,h.2,rfl,rx.any h.1,.inr h1,r1.mono (Same.refl _) λ _ z=>z.elim,q _ H (Same.refl _) rfl⟩
  ·cases e
 ·cases e
noncomputable def fIx:D->D->Option D
 | .lst ds,.int i=>atI ds i
 | .tup ds,.int i=>atI ds i
 | .scr ns,.int i=>(atI ns i).map .int
 | .str z,.int i=>if z.length<=1000000 then (atI z.cps.toList i).map λ c=>.str ⟨#[c]⟩ else none
 | _,_=>none
theorem Aer {H:Hp}{O:Addr->Prop}{ds:List D}{vs:List V}{i:Int}{d:D}(r:Rps K H O ds vs) (h:atI ds i=some d):∃ v,atI vs i=some v/\Rp K H O d v:=by
 unfold atI at h ⊢
 rw [<-r.length] at h
 cases e:ixN vs.length i with
 | none=>rw [e] at h;cases h
 | some j =>
  rw [e] at h
  exact r.get h
theorem Asi:OpD K (rIx K) fIx:=λ H O dx dy d v w Q fr e rx ry q=>by
 cases dx with
 | lst ds =>
  cases dy<;>simp [fIx] at e
  obtain⟨p,vs,rfl,h1,r1⟩:=rx.lst
  obtain⟨v,e1,p1⟩:=Aer r1 e
  exact .inl ⟨p,vs,_,v,rfl,ry.int,SqL.of h1,e1,q _ H (Same.refl _) p1⟩
 | tup ds =>
  cases dy<;>simp [fIx] at e
  obtain⟨p,vs,rfl,h1,r1⟩:=rx.tup
  obtain⟨v,e1,p1⟩:=Aer r1 e
  exact .inr (.inl ⟨p,vs,_,v,rfl,ry.int,SqT.of h1,e1,q _ H (Same.refl _) p1⟩)
 | scr ns =>
  cases dy<;>simp [fIx] at e
  obtain⟨n,e,rfl⟩:=e
  rcases rx with rx|⟨a,_,h⟩
  ·obtain⟨p,rfl,h1⟩:=rx.scr
   refine .inl ⟨p,_,_,.int n,rfl,ry.int,h1,?_,q _ H (Same.refl _) (by unfold Rp;rfl)⟩
   unfold atI at e ⊢
   rw [List.length_map]
   cases e':ixN ns.length _ with
   | none=>rw [e'] at e;cases e
   | some j =>
    rw [e'] at e
    simp only [Option.bind_some] at e ⊢
    rw [List.getElem?_map,e];rfl
  ·exact h.elim
 | str z =>
  cases dy<;>simp [fIx] at e
  obtain⟨hz,c,e,rfl⟩:=e
  exact .inr (.inr ⟨z,_,c,rx.str,ry.int,by rw [sizeLine_eq];omega,e,q _ H (Same.refl _) (by unfold Rp;rfl)⟩)
 | _=>cases dy<;>simp [fIx] at e
end
noncomputable def cutD {α:Type}(xs:List α) (lo hi:Option Int):List α:=(xs.drop (HT.sIx xs.length 0 lo)).take (HT.sIx xs.length xs.length hi-HT.sIx xs.length 0 lo)
noncomputable def Kg (m:EV):Ev->R (Option Int):=λ E=>m E >>= λ d=>match d with
 | .int i=>.ok (some i)
 | _=>.no
noncomputable def Kf:Ev->R (Option Int):=λ _=>.ok none
noncomputable def fSl:D->Option Int->Option Int->Option D
 | .lst ds,lo,hi=>some (.lst (cutD ds lo hi))
 | .tup ds,lo,hi=>if HT.sIx ds.length 0 lo=0/\HT.sIx ds.length ds.length hi=ds.length then none else some (.tup (cutD ds lo hi))
 | _,_,_=>none
noncomputable def eSl (a:EV) (lo hi:Ev->R (Option Int)):EV:=λ E=>a E >>= λ x=>lo E >>= λ l=>hi E >>= λ h=>ofO (fSl x l h)
section
variable {X:Cx}{G:Fc}
def SO (X:Cx) (G:Fc) (e:Option Expr) (m:Ev->R (Option Int)):Prop :=
 PO X e λ σ H Q=>∃ E,Rel X.K G E σ H/\Fin (m E) (λ o=>∀ H',Same H H'->Q o H') G.xc
theorem _root_.L2.PO.imp {X:Cx}{e:Option Expr}{t t':TO}(h:PO X e t) (i:∀ σ H Q,t' σ H Q->t σ H Q):PO X e t':=λ pins s σ H Q I q=>h pins s σ H Q I (i σ H Q q)
theorem Fp:SO X G none Kf:=Aj2.imp λ σ H Q z0=>z0.elim λ E z0=>z0.elim λ hr f=>f H (Same.refl _)
theorem Fj {e:Expr}{m:EV}(h:SE X G e m):SO X G (some e) (Kg m):=(Alr h).imp λ σ H Q z0=>z0.elim λ E z0=>z0.elim λ hr f=>⟨E,hr,(Fin.bind f).mono λ d p v H' s z=>by
 cases d with
 | int i=>exact⟨i,z.int,p H' s⟩
 | _=>exact p.elim⟩
theorem Afz {K:PySem.W.Frag}{H:Hp}{O:Addr->Prop}{ds:List D}{vs:List V}(r:Rps K H O ds vs) (lo hi:Option Int):Rps K H O (cutD ds lo hi) (Ajq vs lo hi):=by
 unfold cutD Ajq
 rw [r.length]
 exact (r.drop _).take _
theorem Dy {e:Expr}{lo hi:Option Expr}{p2 pos:Pos}{m:EV}{ml mh:Ev->R (Option Int)}(he:SE X G e m) (hl:SO X G lo ml) (hh:SO X G hi mh):SF X G (.Subscript e (.Slice lo hi none p2) pos) (eSl m ml mh) :=
 (Agh (SlR.or Amf Aoj) he hl hh).imp λ σ H Q z0=>z0.elim λ E z0=>z0.elim λ hr f=>⟨E,hr,(Fin.bind f).mono λ d p v H1 s1 z1=>⟨E,hr.same s1,(Fin.bind p).mono λ l p H2 s2=>⟨E,hr.same (s1.trans s2),(Fin.bind p).mono λ h p H3 s3=>by
  obtain⟨d',e',p⟩:=Fin.of p
  have z:=z1.mono (s2.trans s3) λ _ z=>z
  have fr:∀ a,H3 a=none->¬ Ow G.pr E σ a:=λ a ha=>(hr.same (s1.trans (s2.trans s3))).fresh ha
  cases d with
  | lst ds =>
   cases e'
   obtain⟨a,vs,rfl,h1,r1⟩:=z.lst
   refine .inl ⟨a,vs,rfl,SqL.of h1,λ q hq=>p _ _ (s1.trans (s2.trans (s3.trans (Av hq)))) ?_⟩
   unfold Rp
   exact⟨q,_,rfl,fr q hq,Aj,(Afz r1 _ _).mono (Av hq) λ _ z=>z⟩
  | tup ds =>
   simp only [fSl] at e'
   split at e'
   ·cases e'
   ·rename_i hn
    cases e'
    obtain⟨a,vs,rfl,h1,r1⟩:=z.tup
    refine .inr ⟨a,vs,rfl,SqT.of h1,by rw [r1.length];exact hn,λ q hq=>p _ _ (s1.trans (s2.trans (s3.trans (Av hq)))) ?_⟩
    unfold Rp
    exact⟨q,_,rfl,fr q hq,Aj,(Afz r1 _ _).mono (Av hq) λ _ z=>z⟩
  | _=>cases e'⟩⟩⟩
end
noncomputable def Aan:List (List Int × D)->List Int->Option D
 | [],_=>none
 | (k,d) :: r,j=>if k=j then some d else Aan r j
noncomputable def dput (kvs:List (List Int × D)) (k:List Int) (v:D):List (List Int × D) :=
 if kvs.any (λ kv=>decide (kv.1=k))=true then kvs.map (λ kv=>if kv.1=k then (kv.1,v) else kv) else kvs++[(k,v)]
noncomputable def keyOf:D->Option (List Int)
 | .tup ds=>Ht ds
 | _=>none
noncomputable def Xl:D->D->Option D
 | .dic kvs,k=>(keyOf k).bind (Aan kvs)
 | _,_=>none
noncomputable def Age:D->D->Option D
 | k,.dic kvs=>(keyOf k).map λ k=>.bl (Aan kvs k).isSome
 | _,_=>none
noncomputable def Je:D->D->Option D
 | k,.dic kvs=>(keyOf k).map λ k=>.bl (!(Aan kvs k).isSome)
 | _,_=>none
section
variable {K:PySem.W.Frag}{H:Hp}{O:Addr->Prop}
theorem Yy {a b:List Int}:a.map (Sum.inl:Int->Key)=b.map Sum.inl ↔ a=b :=
 ⟨λ h=>by
  have:=congrArg (List.map λ k:Key=>match k with|.inl i=>i|.inr _=>0) h
  simpa [Function.comp_def] using this,λ h=>by rw [h]⟩
theorem Rpk.get:∀ {kvs:List (List Int × D)}{ws:List (List Key × V)}(k:List Int),Rpk K H O kvs ws->(match Aan kvs k with|some d=>∃ v,Nf ws (k.map Sum.inl)=some v/\Rp K H O d v|none=>Nf ws (k.map Sum.inl)=none)
 | [],ws,k,h=>by unfold Rpk at h;subst h;rfl
 | (j,d) :: r,ws,k,h=>by
  unfold Rpk at h
  obtain⟨v,r',rfl,p,q⟩:=h
  unfold Rpq at p
  unfold Aan
  by_cases e:j=k
  ·rw [if_pos e]
   exact⟨v,En (by rw [e]),p⟩
  ·rw [if_neg e,Eo (λ z=>e (Yy.mp z))]
   exact Rpk.get k q
theorem Rpk.length:∀ {kvs:List (List Int × D)}{ws:List (List Key × V)},Rpk K H O kvs ws->ws.length=kvs.length
 | [],ws,h=>by unfold Rpk at h;subst h;rfl
 | (j,d) :: r,ws,h=>by
  unfold Rpk at h
  obtain⟨v,r',rfl,p,q⟩:=h
  simp [Rpk.length q]
theorem Rpk.any:∀ {kvs:List (List Int × D)}{ws:List (List Key × V)}(k:List Int),Rpk K H O kvs ws->ws.any (λ kv=>decide (kv.1=k.map Sum.inl))=kvs.any λ kv=>decide (kv.1=k)
 | [],ws,k,h=>by unfold Rpk at h;subst h;rfl
 | (j,d) :: r,ws,k,h=>by
  unfold Rpk at h
  obtain⟨v,r',rfl,p,q⟩:=h
  rw [List.any_cons,List.any_cons,Rpk.any k q]
  congr 1
  rw [Bool.eq_iff_iff];simp only [decide_eq_true_eq];exact Yy
theorem Rpk.repl {d:D}{v:V}{k:List Int}(p:Rp K H O d v):∀ {kvs:List (List Int × D)}{ws:List (List Key × V)},Rpk K H O kvs ws->Rpk K H O (kvs.map λ kv=>if kv.1=k then (kv.1,d) else kv) (ws.map λ kv=>if kv.1=k.map Sum.inl then (kv.1,v) else kv)
 | [],ws,h=>by unfold Rpk at h;subst h;unfold Rpk;rfl
 | (j,d0) :: r,ws,h=>by
  unfold Rpk at h
  obtain⟨u,r',rfl,p0,q⟩:=h
  rw [List.map_cons,List.map_cons]
  by_cases e:j=k
  ·subst e
   rw [if_pos rfl,if_pos rfl]
   unfold Rpk
   exact⟨v,_,rfl,by unfold Rpq;exact p,Rpk.repl p q⟩
  ·rw [if_neg e,if_neg (λ z=>e (Yy.mp z))]
   unfold Rpk
   exact⟨u,_,rfl,p0,Rpk.repl p q⟩
theorem Rpk.snoc {d:D}{v:V}{k:List Int}(p:Rp K H O d v):∀ {kvs:List (List Int × D)}{ws:List (List Key × V)},Rpk K H O kvs ws->Rpk K H O (kvs++[(k,d)]) (ws++[(k.map Sum.inl,v)])
 | [],ws,h=>by
  unfold Rpk at h;subst h;unfold Rpk
  exact⟨v,[],rfl,by unfold Rpq;exact p,by unfold Rpk;rfl⟩
 | (j,d0) :: r,ws,h=>by
  unfold Rpk at h
  obtain⟨u,r',rfl,p0,q⟩:=h
  show Rpk K H O ((j,d0) :: (r++[(k,d)])) _
  unfold Rpk
  exact⟨u,_,rfl,p0,Rpk.snoc p q⟩
theorem Rpk.put {kvs:List (List Int × D)}{ws:List (List Key × V)}{k:List Int}{d:D}{v:V}(h:Rpk K H O kvs ws) (p:Rp K H O d v):Rpk K H O (dput kvs k d) (putK ws (k.map Sum.inl) v):=by
 unfold dput putK
 rw [h.any k]
 split
 ·exact Rpk.repl p h
 ·exact Rpk.snoc p h
theorem Iv {k:D}{ks:List Int}{v:V}(e:keyOf k=some ks) (r:Rt K H O k v):∃ b,v=.ref b/\H b=some (.tup ((ks.map (Sum.inl:Int->Key)).map kV)):=by
 cases k with
 | tup ds =>
  obtain⟨b,vs,rfl,h,r⟩:=r.tup
  have:=Fl e
  subst this
  refine⟨b,rfl,?_⟩
  rw [h,r.ints,List.map_map];rfl
 | _=>simp [keyOf] at e
end
section
variable {X:Cx}{G:Fc}{o i:Expr}{mo mi:EV}{pos:Pos}
theorem Xe {H:Hp}{a b:Addr}{kvs:List (List Key × V)}{k:List Key}(e:Rd H a (.dT kvs)) (eb:H b=some (.tup (k.map kV))):Xb H a (.ref b) (Nf kvs k):=.inr ⟨kvs,k,b,e,rfl,eb,rfl⟩
theorem Ake (hu:X.A.units+1<cLine) (ho:SE X G o mo) (hi:SE X G i mi) (hs:Arc i):SF X G (.Subscript o i pos) (e2 Xl mo mi) :=
 (Yn hu ho hi hs).imp λ σ H Q z0=>z0.elim λ E z0=>z0.elim λ hr f=>⟨E,hr,(Fin.bind f).mono λ dx fx v H1 s1 p1=>⟨E,hr.same s1,(Fin.bind fx).mono λ dy fy w H2 s2 p2=>by
  obtain⟨d,e,p⟩:=Fin.of fy
  cases dx with
  | dic kvs =>
   simp only [Xl,Option.bind_eq_some_iff] at e
   obtain⟨ks,e1,e2⟩:=e
   obtain⟨b,rfl,hb⟩:=Iv e1 p2
   obtain⟨a,ws,rfl,ha,rk⟩:=(p1.mono s2 λ _ z=>z).dic
   have g:=rk.get ks
   rw [e2] at g
   obtain⟨v,g1,g2⟩:=g
   refine⟨a,v,rfl,?_,p v H2 (s1.trans s2) g2⟩
   have:=Xe ha hb
   rw [g1] at this
   exact this
  | _=>cases e⟩⟩
theorem Xw {K:PySem.W.Frag}{H:Hp}{O:Addr->Prop}{kvs:List (List Int × D)}{ws:List (List Key × V)}{ks:List Int}{a b:Addr}(rk:Rpk K H O kvs ws) (ha:Rd H a (.dT ws)) (hb:H b=some (.tup ((ks.map (Sum.inl:Int->Key)).map kV))) :
  ∃ o,Xb H a (.ref b) o/\o.isSome=(Aan kvs ks).isSome:=by
 refine⟨_,Xe ha hb,?_⟩
 have g:=rk.get ks
 cases e:Aan kvs ks with
 | none=>rw [e] at g;dsimp only at g;rw [g];rfl
 | some d=>rw [e] at g;obtain⟨v,g1,_⟩:=g;rw [g1];rfl
theorem An6 (hu:X.A.units+1<cLine) (hi:SE X G i mi) (ho:SE X G o mo) (hm:behindInMarks .In o=false):SF X G (.Compare i [.In] [o] pos) (e2 Age mi mo) :=
 (Aoq (Aja hu hi ho) hm).imp λ σ H Q z0=>z0.elim λ E z0=>z0.elim λ hr f=>⟨E,hr,(Fin.bind f).mono λ dx fx v H1 s1 p1=>⟨E,hr.same s1,(Fin.bind fx).mono λ dy fy w H2 s2 p2=>by
  obtain⟨d,e,p⟩:=Fin.of fy
  cases dy with
  | dic kvs =>
   simp only [Age,Option.map_eq_some_iff] at e
   obtain⟨ks,e1,rfl⟩:=e
   obtain⟨b,rfl,hb⟩:=Iv e1 (p1.mono s2 λ _ z=>z)
   obtain⟨a,ws,rfl,ha,rk⟩:=p2.dic
   obtain⟨o,g1,g2⟩:=Xw rk ha hb
   refine⟨a,o,rfl,g1,?_⟩
   rw [g2]
   exact p _ H2 (s1.trans s2) (by unfold Rp;rfl)
  | _=>cases e⟩⟩
end
section
variable {K:PySem.W.Frag}{G:Fc}{E:Ev}{σ:St}{H H':Hp}
theorem get_set {α:Type}{l:List α}{i j:Nat}{x y:α}(h:(l.set i x)[j]?=some y):(j=i/\y=x)\/(j≠i/\l[j]?=some y):=by
 by_cases e:j=i
 ·subst e
  rw [List.getElem?_set_self'] at h
  cases q:l[j]? with
  | none=>rw [q] at h;cases h
  | some z=>rw [q] at h;simp at h;exact .inl ⟨rfl,h.symm⟩
 ·rw [List.getElem?_set_ne (Ne.symm e)] at h
  exact .inr ⟨e,h⟩
theorem Fz {α:Type}{l:List α}{i j:Nat}{x:α}(e:j≠i):(l.set i x)[j]?=l[j]?:=List.getElem?_set_ne (Ne.symm e)
theorem Ln {α:Type}{l:List α}{i:Nat}{x:α}(h:i<l.length):(l.set i x)[i]?=some x:=by simp [h]
theorem Ow.setF {i:Nat}{d:D}{v:Option V}{a:Addr}(h:Ow G.pr (E.set i (.fz d)) (σ.set i v) a):Ow G.pr E σ a:=by
 rcases h with h|⟨j,d',h1,h2⟩
 ·exact .inl h
 ·rcases get_set h1 with ⟨_,e⟩|⟨n,h1⟩
  ·cases e
  ·rw [Fz n] at h2
   exact .inr ⟨j,d',h1,h2⟩
theorem Rel.setF {i:Nat}{d:D}{v:V}(r:Rel K G E σ H) (p:Rp K H (Ow G.pr E σ) d v):Rel K G (E.set i (.fz d)) (σ.set i (some v)) H where
 len:=by simp [r.len]
 fz:=λ j d' h=>by
  rcases get_set h with ⟨e,z⟩|⟨n,h⟩
  ·cases z
   subst e
   have hj:j<σ.length:=by
    rw [<-r.len]
    have:=(List.getElem?_eq_some_iff.mp h).1
    simpa using this
   exact⟨v,Ln hj,p.mono (Same.refl _) λ _ z=>z.setF⟩
  ·obtain⟨u,h1,h2⟩:=r.fz j d' h
   exact⟨u,by rw [Fz n];exact h1,h2.mono (Same.refl _) λ _ z=>z.setF⟩
 ow:=λ j d' h=>by
  rcases get_set h with ⟨e,z⟩|⟨n,h⟩
  ·cases z
  ·obtain⟨u,h1,h2,h3⟩:=r.ow j d' h
   exact⟨u,by rw [Fz n];exact h1,h2.mono (Same.refl _) λ _ z=>z.setF,h3⟩
 ne:=λ j k d' e' a h1 h2 h3 h4=>by
  rcases get_set h1 with ⟨_,z⟩|⟨n1,h1⟩
  ·cases z
  rcases get_set h2 with ⟨_,z⟩|⟨n2,h2⟩
  ·cases z
  rw [Fz n1] at h3
  rw [Fz n2] at h4
  exact r.ne j k d' e' a h1 h2 h3 h4
 base:=r.base
 prt:=r.prt
theorem Rel.setO {i:Nat}{d:D}{a:Addr}(r:Rel K G E σ H) (s:Same H H') (n:H a=none) (p:Own K H' (λ b=>Ow G.pr E σ b\/b=a) d a):Rel K G (E.set i (.ow d)) (σ.set i (some (.ref a))) H':=by
 have no:¬ Ow G.pr E σ a:=r.fresh n
 have sub:∀ b,Ow G.pr (E.set i (.ow d)) (σ.set i (some (.ref a))) b->Ow G.pr E σ b\/b=a:=λ b h=>by
  rcases h with h|⟨j,d',h1,h2⟩
  ·exact .inl (.inl h)
  ·rcases get_set h1 with ⟨e,z⟩|⟨n1,h1⟩
   ·cases z
    subst e
    rcases get_set h2 with ⟨_,z⟩|⟨n,_⟩
    ·cases z;exact .inr rfl
    ·exact absurd rfl n
   ·rw [Fz n1] at h2
    exact .inl (.inr ⟨j,d',h1,h2⟩)
 have h0:G.h0 a=none:=by
  cases q:G.h0 a with
  | none=>rfl
  | some o=>rw [r.base _ _ q] at n;cases n
 refine⟨by simp [r.len],λ j d' h=>?_,λ j d' h=>?_,λ j k d' e' b h1 h2 h3 h4=>?_,r.base.trans s,r.prt⟩
 ·rcases get_set h with ⟨e,z⟩|⟨n1,h⟩
  ·cases z
  ·obtain⟨u,h1,h2⟩:=r.fz j d' h
   exact⟨u,by rw [Fz n1];exact h1,(h2.fresh n).mono s sub⟩
 ·rcases get_set h with ⟨e,z⟩|⟨n1,h⟩
  ·cases z
   subst e
   have hj:j<σ.length:=by
    rw [<-r.len]
    have:=(List.getElem?_eq_some_iff.mp h).1
    simpa using this
   exact⟨a,Ln hj,p.mono (Same.refl _) sub,h0⟩
  ·obtain⟨u,h1,h2,h3⟩:=r.ow j d' h
   refine⟨u,by rw [Fz n1];exact h1,?_,h3⟩
   have h4:Own K H (λ b=>Ow G.pr E σ b\/b=a) d' u:=by
    cases d' with
    | lst ds=>obtain⟨vs,e,q⟩:=h2;exact⟨vs,e,q.fresh n⟩
    | dic ds=>obtain⟨vs,e,q⟩:=h2;exact⟨vs,e,q.fresh n⟩
    | _=>exact h2
   exact h4.mono s sub
 ·rcases get_set h1 with ⟨ej,zj⟩|⟨n1,h1⟩
  ·rcases get_set h2 with ⟨ek,zk⟩|⟨n2,h2'⟩
   ·rw [ej,ek]
   ·exfalso
    cases ej
    rcases get_set h3 with ⟨_,z⟩|⟨n,_⟩
    ·cases z
     rw [Fz n2] at h4
     exact no (.inr ⟨k,e',h2',h4⟩)
    ·exact n rfl
  ·rename_i hh1
   rcases get_set h2 with ⟨ek,zk⟩|⟨n2,h2⟩
   ·exfalso
    cases ek
    rcases get_set h4 with ⟨_,z⟩|⟨n,_⟩
    ·cases z
     rw [Fz n1] at h3
     exact no (.inr ⟨j,d',h1,h3⟩)
    ·exact n rfl
   ·rw [Fz n1] at h3
    rw [Fz n2] at h4
    exact r.ne j k d' e' b h1 h2 h3 h4
end
section
variable {K:PySem.W.Frag}{G:Fc}{E:Ev}{σ:St}{H H':Hp}
theorem Rel.write {i:Nat}{d d':D}{a:Addr}{o':HO}(r:Rel K G E σ H) (hi:E[i]?=some (.ow d)) (ha:σ[i]?=some (some (.ref a))) (p:Own K (upd H a o') (Ow G.pr E σ) d' a):Rel K G (E.set i (.ow d')) σ (upd H a o'):=by
 have oa:Ow G.pr E σ a:=.inr ⟨i,d,hi,ha⟩
 have sub:∀ b,Ow G.pr (E.set i (.ow d')) σ b->Ow G.pr E σ b:=λ b h=>by
  rcases h with h|⟨j,d1,h1,h2⟩
  ·exact .inl h
  ·rcases get_set h1 with ⟨e,z⟩|⟨n1,h1⟩
   ·subst e;exact .inr ⟨j,d,hi,h2⟩
   ·exact .inr ⟨j,d1,h1,h2⟩
 obtain⟨a',e1,e2,e3⟩:=r.ow i d hi
 rw [ha] at e1;cases e1
 refine⟨by simp [r.len],λ j d1 h=>?_,λ j d1 h=>?_,λ j k d1 d2 b h1 h2 h3 h4=>?_,λ b o q=>?_,r.prt⟩
 ·rcases get_set h with ⟨e,z⟩|⟨n1,h⟩
  ·cases z
  ·obtain⟨u,h1,h2⟩:=r.fz j d1 h
   exact⟨u,h1,(h2.write oa).mono (Same.refl _) sub⟩
 ·rcases get_set h with ⟨e,z⟩|⟨n1,h⟩
  ·cases z
   subst e
   exact⟨a,ha,p.mono (Same.refl _) sub,e3⟩
  ·obtain⟨u,h1,h2,h3⟩:=r.ow j d1 h
   have hu:u≠a:=λ z=>by subst z;exact n1 (r.ne j i d1 d u h hi h1 ha)
   refine⟨u,h1,?_,h3⟩
   cases d1 with
   | lst ds=>obtain⟨vs,e,q⟩:=h2;exact⟨vs,by rw [Al hu];exact e,(q.write oa).mono (Same.refl _) sub⟩
   | dic ds=>obtain⟨vs,e,q⟩:=h2;exact⟨vs,by rw [Al hu];exact e,(q.write oa).mono (Same.refl _) sub⟩
   | _=>exact h2
 ·have q1:∃ x,E[j]?=some (.ow x):=by
   rcases get_set h1 with ⟨e,z⟩|⟨n1,h1⟩
   ·exact⟨d,by rw [e];exact hi⟩
   ·exact⟨_,h1⟩
  have q2:∃ x,E[k]?=some (.ow x):=by
   rcases get_set h2 with ⟨e,z⟩|⟨n1,h2⟩
   ·exact⟨d,by rw [e];exact hi⟩
   ·exact⟨_,h2⟩
  obtain⟨x1,q1⟩:=q1
  obtain⟨x2,q2⟩:=q2
  exact r.ne j k x1 x2 b q1 q2 h3 h4
 ·have hb:b≠a:=λ z=>by subst z;rw [e3] at q;cases q
  rw [Al hb]
  exact r.base _ _ q
noncomputable def frz (i:Nat) (E:Ev):Ev:=match E[i]? with
 | some (.ow d)=>E.set i (.fz d)
 | _=>E
theorem Rel.frz {i:Nat}(r:Rel K G E σ H):Rel K G (frz i E) σ H\/∃ a ws,H a=some (.dT ws)/\G.h0 a=none/\∀ o,Rel K G (frz i E) σ (upd H a (.frz o (.dT ws))):=by
 unfold M.frz
 split
 ·rename_i d hi
  obtain⟨a,e1,e2,e3⟩:=r.ow i d hi
  have eσ:σ.set i (some (.ref a))=σ:=by
   apply List.ext_getElem?
   intro j
   by_cases e:j=i
   ·subst e;rw [Ln (List.getElem?_eq_some_iff.mp e1).1,e1]
   ·rw [Fz e]
  have sub:∀ b,Ow G.pr (E.set i (.fz d)) σ b->Ow G.pr E σ b/\b≠a:=λ b h=>by
   have h':Ow G.pr (E.set i (.fz d)) (σ.set i (some (.ref a))) b:=by rw [eσ];exact h
   refine⟨h'.setF,λ z=>?_⟩
   subst z
   rcases h with h|⟨j,d1,h1,h2⟩
   ·obtain⟨o,q,_⟩:=r.prt b h
    rw [e3] at q;cases q
   ·rcases get_set h1 with ⟨e,z⟩|⟨n1,h1⟩
    ·cases z
    ·exact n1 (r.ne j i d1 d b h1 hi h2 e1)
  have ne:∀ (j k:Nat) (d1 d2:D) (b:Addr),(E.set i (.fz d))[j]?=some (.ow d1)->(E.set i (.fz d))[k]?=some (.ow d2)->σ[j]?=some (some (.ref b))->σ[k]?=some (some (.ref b))->j=k:=λ j k d1 d2 b h1 h2 h3 h4=>by
   rcases get_set h1 with ⟨_,z⟩|⟨n1,h1⟩
   ·cases z
   rcases get_set h2 with ⟨_,z⟩|⟨n2,h2⟩
   ·cases z
   exact r.ne j k d1 d2 b h1 h2 h3 h4
  cases hd:Akp d with
  | false =>
   refine .inl ⟨by simp [r.len],λ j d1 h=>?_,λ j d1 h=>?_,ne,r.base,r.prt⟩
   ·rcases get_set h with ⟨e,z⟩|⟨n1,h⟩
    ·cases z
     subst e
     exact⟨_,e1,(e2.mono (Same.refl _) λ b z=>(sub b z).1).rp (λ z=>(sub a z).2 rfl) hd⟩
    ·obtain⟨u,h1,h2⟩:=r.fz j d1 h
     exact⟨u,h1,h2.mono (Same.refl _) λ b z=>(sub b z).1⟩
   ·rcases get_set h with ⟨e,z⟩|⟨n1,h⟩
    ·cases z
    ·obtain⟨u,h1,h2,h3⟩:=r.ow j d1 h
     exact⟨u,h1,h2.mono (Same.refl _) λ b z=>(sub b z).1,h3⟩
  | true =>
   cases d with
   | dic ds =>
    obtain⟨ws,e,t⟩:=(e2.mono (O':=Ow G.pr (E.set i (.fz (.dic ds))) σ) (Same.refl _) λ b z=>(sub b z).1).tagged (λ z=>(sub a z).2 rfl)
    refine .inr ⟨a,ws,e,e3,λ o=>⟨by simp [r.len],λ j d1 h=>?_,λ j d1 h=>?_,ne,λ b u q=>?_,r.prt⟩⟩
    ·rcases get_set h with ⟨e,z⟩|⟨n1,h⟩
     ·cases z
      subst e
      exact⟨_,e1,t o⟩
     ·obtain⟨u,h1,h2⟩:=r.fz j d1 h
      exact⟨u,h1,(h2.mono (Same.refl _) λ b z=>(sub b z).1).tag e⟩
    ·rcases get_set h with ⟨e,z⟩|⟨n1,h⟩
     ·cases z
     ·obtain⟨u,h1,h2,h3⟩:=r.ow j d1 h
      have hu:u≠a:=λ z=>by subst z;exact n1 (r.ne j i d1 _ u h hi h1 e1)
      refine⟨u,h1,?_,h3⟩
      cases d1 with
      | lst ds=>obtain⟨vs,e',q⟩:=h2;exact⟨vs,by rw [Al hu];exact e',(q.mono (Same.refl _) λ b z=>(sub b z).1).tag e⟩
      | dic ds=>obtain⟨vs,e',q⟩:=h2;exact⟨vs,by rw [Al hu];exact e',(q.mono (Same.refl _) λ b z=>(sub b z).1).tag e⟩
      | _=>exact h2
    ·rw [Al (λ z=>by rw [z,e3] at q;cases q)]
     exact r.base _ _ q
   | _=>cases hd
 ·exact .inl r
end
noncomputable def Bc (m n:EX):EX:=λ E=>m E >>= λ o=>match o with
 | .nx E'=>n E'
 | o=>.ok o
noncomputable def Eu:EX:=λ E=>.ok (.nx E)
noncomputable def Ek (m:EV):EX:=λ E=>m E >>= λ d=>.ok (.rt d)
noncomputable def Ati:EX:=λ _=>.ok (.rt .non)
noncomputable def Fx (i:Nat) (m:EV):EX:=λ E=>m E >>= λ d=>.ok (.nx (E.set i (.fz d)))
noncomputable def Ack (i:Nat) (m:EV):EX:=λ E=>m E >>= λ d=>.ok (.nx (E.set i (.ow d)))
noncomputable def xDo (m:EV):EX:=λ E=>m E >>= λ _=>.ok (.nx E)
noncomputable def xIf (t:Ev->R Bool) (a b:EX):EX:=λ E=>t E >>= λ k=>if k=true then a E else b E
noncomputable def Ag9 (i:Nat) (m:EX):EX:=λ E=>m (frz i E)
noncomputable def Amw (i:Nat) (m:EV):EX:=λ E=>match E[i]? with
 | some (.ow (.lst ds))=>m E >>= λ d=>if ds.length<1000000 then .ok (.nx (E.set i (.ow (.lst (ds++[d]))))) else .no
 | _=>.no
noncomputable def Arv (i:Nat) (m:EV):EX:=λ E=>match E[i]? with
 | some (.ow (.lst ds))=>m E >>= λ d=>match d with
  | .lst es=>if ds.length+es.length<1000000 then .ok (.nx (E.set i (.ow (.lst (ds++es))))) else .no
  | _=>.no
 | _=>.no
noncomputable def Ard (i j:Nat):EX:=λ E=>match E[i]? with
 | some (.ow (.lst ds))=>match ds[ds.length-1]? with
  | some d=>.ok (.nx ((E.set i (.ow (.lst ds.dropLast))).set j (.fz d)))
  | none=>.no
 | _=>.no
noncomputable def Qe (i:Nat) (mk mv:EV):EX:=λ E=>match E[i]? with
 | some (.ow (.dic kvs))=>mv E >>= λ d=>mk E >>= λ k=>match keyOf k with
  | some ks=>if kvs.length<1000000 then .ok (.nx (E.set i (.ow (.dic (dput kvs ks d))))) else .no
  | none=>.no
 | _=>.no
noncomputable def Ays (i:Nat) (mk mv:EV):EX:=λ E=>match E[i]? with
 | some (.ow (.lst ds))=>mv E >>= λ d=>mk E >>= λ k=>match k with
  | .int n=>match ixN ds.length n with
   | some j=>.ok (.nx (E.set i (.ow (.lst (ds.set j d)))))
   | none=>.no
  | _=>.no
 | _=>.no
section
variable {X:Cx}{G:Fc}{st:Stmt}{rest:List Stmt}{m n:EX}{e:Expr}{me:EV}{pos:Pos}
theorem Bf:SB X G [] Eu:=Gv.imp λ D σ H z0=>z0.elim λ E z0=>z0.elim λ hr f=>f σ H hr
theorem Af (h1:SS X G st m) (h2:SB X G rest n):SB X G (st :: rest) (Bc m n):=(Bg h1 h2).imp λ D σ H z0=>z0.elim λ E z0=>z0.elim λ hr f=>⟨E,hr,(Fin.bind f).mono λ o p=>by
 cases o with
 | nx E'=>exact λ σ' H' r'=>⟨E',r',p⟩
 | bk E'=>exact p
 | ct E'=>exact p
 | rt d=>exact p⟩
theorem Ai (h1:SS X G st m):SB X G [st] m:=Ca h1
theorem tagged {X:Cx}{pins:List (Addr × Obj)}{σ:St}{H:Hp}{s:Shared}{a:Addr}{ws:List (List Key × V)}(I:Inv X pins σ H s) (e:H a=some (.dT ws)):∃ o,Inv X pins σ (upd H a (.frz o (.dT ws))) s/\NF X a:=by
 obtain⟨z,y,xs,rr,o,es,ep,h1,h2⟩:=(show Ea X.prog X.w H s.heap a (.dT ws) from I.hok a _ e)
 exact⟨o,I.tag e h1⟩
theorem Pq (i:Nat) (h:SS X G st m):SS X G st (Ag9 i m):=by
 rintro pins s σ H D I ⟨E,hr,f⟩
 rcases hr.frz (i:=i) with r|⟨a,ws,e,_,r⟩
 ·exact h pins s σ H D I ⟨frz i E,r,f⟩
 ·obtain⟨o,I',_⟩:=tagged I e
  exact h pins s σ _ D I' ⟨frz i E,r o,f⟩
theorem Ax (he:SF X G e me):SS X G (.Return (some e) pos) (Ek me):=(G4 he).imp λ D σ H ⟨E,hr,f⟩=>⟨E,hr,(Fin.bind f).mono λ d p v H' s z=>p v H' (hr.base.trans s) (z.mono (Same.refl _) λ _ z=>.inl z)⟩
theorem Ba (i:Nat) {x:Str}{pos':Pos}(he:SF X G e me) (hN:X.N.Nodup) (hi:X.N[i]?=some x:=by rfl) (hx:Loc X.env.scope x:=by first|exact Or.inl rfl|exact Or.inr rfl) (hs:swapsWith e (some (.Name x pos')) pos.line X.env=pure false:=by rfl) (hf:X.fn x=true\/X.env.scope.names.lookup x=some .local:=by first|exact .inl rfl|exact .inr rfl|assumption) :
  SS X G (.Assign [.Name x pos'] e pos) (Fx i me):=(Er hN hi hx he hs hf).imp λ D σ H ⟨E,hr,f⟩=>⟨E,hr,(Fin.bind f).mono λ d p v H' s z=>p _ _ ((hr.same s).setF z)⟩
theorem Jl (i:Nat) {x:Str}{pos':Pos}(he:SN X G e me) (hN:X.N.Nodup) (hi:X.N[i]?=some x:=by rfl) (hx:Loc X.env.scope x:=by first|exact Or.inl rfl|exact Or.inr rfl) (hs:swapsWith e (some (.Name x pos')) pos.line X.env=pure false:=by rfl) (hf:X.fn x=true\/X.env.scope.names.lookup x=some .local:=by first|exact .inl rfl|exact .inr rfl|assumption) :
  SS X G (.Assign [.Name x pos'] e pos) (Ack i me):=(Er hN hi hx he hs hf).imp λ D σ H ⟨E,hr,f⟩=>⟨E,hr,(Fin.bind f).mono λ d p a H' s n z=>p _ _ (hr.setO s n z)⟩
theorem Bb (he:SE X G e me) (hs:swapsWith e none pos.line X.env=pure false:=by rfl):SS X G (.Expr e pos) (xDo me):=(Mj he hs).imp λ D σ H ⟨E,hr,f⟩=>⟨E,hr,(Fin.bind f).mono λ d p v H' s z=>p σ H' (hr.same s)⟩
theorem Bx {c:Expr}{a b:List Stmt}{tc:Ev->R Bool}{ma mb:EX}(hc:ST X G c tc) (ha:SB X G a ma) (hb:SB X G b mb):SS X G (.If c a b pos) (xIf tc ma mb):=(Lb hc ha hb).imp λ D σ H z0=>z0.elim λ E z0=>z0.elim λ hr f=>⟨E,hr,(Fin.bind f).mono λ k p H' s=>by
 cases k with
 | true=>exact⟨E,hr.same s,p⟩
 | false=>exact⟨E,hr.same s,p⟩⟩
noncomputable def Ry:EX:=λ _=>.no
theorem T8 {sts:List Stmt}:SB X G sts Ry:=Afs.imp λ D σ H z0=>z0.elim λ E z0=>z0.elim λ hr f=>f
theorem Uy {K:PySem.W.Frag}{E:Ev}{σ:St}{H:Hp}{i:Nat}{ds:List D}(r:Rel K G E σ H) (h:E[i]?=some (.ow (.lst ds))):∃ a vs,σ[i]?=some (some (.ref a))/\H a=some (.lst vs)/\Rps K H (Ow G.pr E σ) ds vs/\Ow G.pr E σ a:=by
 obtain⟨a,e1,⟨vs,e2,e3⟩,_⟩:=r.ow i _ h
 exact⟨a,vs,e1,e2,e3,.inr ⟨i,_,h,e1⟩⟩
theorem Wb {K:PySem.W.Frag}{E:Ev}{σ:St}{H:Hp}{i:Nat}{ds:List (List Int × D)}(r:Rel K G E σ H) (h:E[i]?=some (.ow (.dic ds))):∃ a vs,σ[i]?=some (some (.ref a))/\H a=some (.dT vs)/\Rpk K H (Ow G.pr E σ) ds vs/\Ow G.pr E σ a:=by
 obtain⟨a,e1,⟨vs,e2,e3⟩,_⟩:=r.ow i _ h
 exact⟨a,vs,e1,e2,e3,.inr ⟨i,_,h,e1⟩⟩
theorem Aga {o e:Expr}{to te:TE}{apos cpos:Pos}(ho:PE X o to) (he:PE X e te) (hbase:attributeBase o "append" X.env (eval o X.env)=eval o X.env:=by rfl)
  (hfew:((backTo cpos (starEach [e] X.env)).all (λ x=>!x.1) && (backToKw cpos (keywordEach [] X.env)).all (λ x=>x.1.isSome) && decide ([e].length+([]:List Keyword).length+(if ([]:List Keyword).isEmpty then 0 else 1)<30))=true:=by rfl)
  (hline:(apos.endLine == cpos.line)=true:=by rfl) (hs:starEach [e] X.env=(false,eval e X.env) :: starEach [] X.env:=by rfl):PE X (.Call (.Attribute o "append" apos) [e] [] cpos) (tBM X.K "list" Tc to (Bw te K7)) :=
 Abj PySem.F.plainAttrs_list PySem.F.slot_list_append PySem.F.type_list_append Ph ho (Ak he Bl hs) hbase hfew hline hs
theorem Aeu {o e:Expr}{to te:TE}{apos cpos:Pos}(ho:PE X o to) (he:PE X e te) (hbase:attributeBase o "extend" X.env (eval o X.env)=eval o X.env:=by rfl)
  (hfew:((backTo cpos (starEach [e] X.env)).all (λ x=>!x.1) && (backToKw cpos (keywordEach [] X.env)).all (λ x=>x.1.isSome) && decide ([e].length+([]:List Keyword).length+(if ([]:List Keyword).isEmpty then 0 else 1)<30))=true:=by rfl)
  (hline:(apos.endLine == cpos.line)=true:=by rfl) (hs:starEach [e] X.env=(false,eval e X.env) :: starEach [] X.env:=by rfl):PE X (.Call (.Attribute o "extend" apos) [e] [] cpos) (tBM X.K "list" Ad0 to (Bw te K7)) :=
 Abj PySem.F.plainAttrs_list PySem.F.slot_list_extend PySem.F.type_list_extend Aej ho (Ak he Bl hs) hbase hfew hline hs
theorem Ap1 {o:Expr}{to:TE}{apos cpos:Pos}(ho:PE X o to) (hbase:attributeBase o "pop" X.env (eval o X.env)=eval o X.env:=by rfl) (hline:(apos.endLine == cpos.line)=true:=by rfl):PE X (.Call (.Attribute o "pop" apos) [] [] cpos) (Ata X.K "list" Au4 to) :=
 Ajt PySem.F.plainAttrs_list PySem.F.slot_list_pop PySem.F.type_list_pop Apc ho hbase hline
theorem Z1 (i:Nat) {x:Str}{p apos cpos:Pos}(he:SF X G e me) (hN:X.N[i]?=some x:=by rfl) (hv:Vis X.env.scope x:=by first|exact Or.inl rfl|exact Or.inr (Or.inl rfl)|exact Or.inr (Or.inr rfl)) (hd:(x == ("__debug__":Str))=false:=by decide) (hcd:(x == ("__classdict__":Str))=false:=by decide)
  (hfew:((backTo cpos (starEach [e] X.env)).all (λ x=>!x.1) && (backToKw cpos (keywordEach [] X.env)).all (λ x=>x.1.isSome) && decide ([e].length+([]:List Keyword).length+(if ([]:List Keyword).isEmpty then 0 else 1)<30))=true:=by rfl)
  (hline:(apos.endLine == cpos.line)=true:=by rfl) (hs:starEach [e] X.env=(false,eval e X.env) :: starEach [] X.env:=by rfl)
  (hs2:swapsWith (.Call (.Attribute (.Name x p) "append" apos) [e] [] cpos) none pos.line X.env=pure false:=by rfl):SS X G (.Expr (.Call (.Attribute (.Name x p) "append" apos) [e] [] cpos) pos) (Amw i me) :=
 (Mj (Aga (Kl hN hv hd hcd) he rfl hfew hline hs) hs2).imp λ D σ H z0=>z0.elim λ E z0=>z0.elim λ hr f=>by
  unfold Amw at f
  split at f
  ·rename_i ds hi
   obtain⟨a,vs,e1,e2,e3,e4⟩:=Uy hr hi
   refine⟨_,e1,.inl ⟨rfl,vs,SqL.of e2⟩,⟨E,hr,(Fin.bind f).mono λ d p v H' s z=>?_⟩⟩
   split at p
   ·rename_i hl
    have hr':=hr.same s
    refine⟨a,vs,v,rfl,rfl,s _ _ e2,by rw [e3.length,sizeLine_eq];omega,p _ _ (hr'.write hi e1 ⟨_,Aj,?_⟩)⟩
    exact Rps.write e4 ((e3.mono s λ _ z=>z).append (Rps.cons z Rps.nil))
   ·exact p.elim
  ·exact f.elim
theorem Aqp (i:Nat) {x:Str}{p apos cpos:Pos}(he:SF X G e me) (hN:X.N[i]?=some x:=by rfl) (hv:Vis X.env.scope x:=by first|exact Or.inl rfl|exact Or.inr (Or.inl rfl)|exact Or.inr (Or.inr rfl)) (hd:(x == ("__debug__":Str))=false:=by decide) (hcd:(x == ("__classdict__":Str))=false:=by decide)
  (hfew:((backTo cpos (starEach [e] X.env)).all (λ x=>!x.1) && (backToKw cpos (keywordEach [] X.env)).all (λ x=>x.1.isSome) && decide ([e].length+([]:List Keyword).length+(if ([]:List Keyword).isEmpty then 0 else 1)<30))=true:=by rfl)
  (hline:(apos.endLine == cpos.line)=true:=by rfl) (hs:starEach [e] X.env=(false,eval e X.env) :: starEach [] X.env:=by rfl)
  (hs2:swapsWith (.Call (.Attribute (.Name x p) "extend" apos) [e] [] cpos) none pos.line X.env=pure false:=by rfl):SS X G (.Expr (.Call (.Attribute (.Name x p) "extend" apos) [e] [] cpos) pos) (Arv i me) :=
 (Mj (Aeu (Kl hN hv hd hcd) he rfl hfew hline hs) hs2).imp λ D σ H z0=>z0.elim λ E z0=>z0.elim λ hr f=>by
  unfold Arv at f
  split at f
  ·rename_i ds hi
   obtain⟨a,vs,e1,e2,e3,e4⟩:=Uy hr hi
   refine⟨_,e1,.inl ⟨rfl,vs,SqL.of e2⟩,⟨E,hr,(Fin.bind f).mono λ d p v H' s z=>?_⟩⟩
   cases d with
   | lst es =>
    dsimp only at p
    split at p
    ·rename_i hl
     have hr':=hr.same s
     unfold Rp at z
     obtain⟨b,ws,rfl,nb,hb,rb⟩:=z
     refine⟨a,b,vs,ws,rfl,rfl,s _ _ e2,hb,by rw [e3.length,rb.length,sizeLine_eq];omega,p _ _ (hr'.write hi e1 ⟨_,Aj,?_⟩)⟩
     exact Rps.write e4 ((e3.mono s λ _ z=>z).append rb)
    ·exact p.elim
   | _=>exact p.elim
  ·exact f.elim
theorem Arb (i j:Nat) {x y:Str}{p py apos cpos:Pos}(hNd:X.N.Nodup) (hN:X.N[i]?=some x:=by rfl) (hj:X.N[j]?=some y:=by rfl) (hv:Vis X.env.scope x:=by first|exact Or.inl rfl|exact Or.inr (Or.inl rfl)|exact Or.inr (Or.inr rfl)) (hd:(x == ("__debug__":Str))=false:=by decide) (hcd:(x == ("__classdict__":Str))=false:=by decide)
  (hx:Loc X.env.scope y:=by first|exact Or.inl rfl|exact Or.inr rfl)
  (hline:(apos.endLine == cpos.line)=true:=by rfl)
  (hs:swapsWith (.Call (.Attribute (.Name x p) "pop" apos) [] [] cpos) (some (.Name y py)) pos.line X.env=pure false:=by rfl) (hf:X.fn y=true\/X.env.scope.names.lookup y=some .local:=by first|exact .inl rfl|exact .inr rfl|assumption) :
  SS X G (.Assign [.Name y py] (.Call (.Attribute (.Name x p) "pop" apos) [] [] cpos) pos) (Ard i j) :=
 (Er hNd hj hx (Ap1 (Kl hN hv hd hcd) rfl hline) hs hf).imp λ D σ H z0=>z0.elim λ E z0=>z0.elim λ hr f=>by
  unfold Ard at f
  split at f
  ·rename_i ds hi
   obtain⟨a,vs,e1,e2,e3,e4⟩:=Uy hr hi
   split at f
   ·rename_i d hd'
    obtain⟨v,h1,h2⟩:=e3.get hd'
    refine⟨_,e1,.inl ⟨rfl,vs,SqL.of e2⟩,a,vs,v,rfl,rfl,e2,by rw [e3.length];exact h1,?_⟩
    have hw:Rel X.K G (E.set i (.ow (.lst ds.dropLast))) σ (upd H a (.lst vs.dropLast)):=hr.write hi e1 ⟨_,Aj,Rps.write e4 (by
     rw [List.dropLast_eq_take,List.dropLast_eq_take,e3.length]
     exact e3.take _)⟩
    refine f _ _ (hw.setF ?_)
    refine (h2.write e4).mono (Same.refl _) λ b z=>?_
    rcases z with z|⟨k,d',z1,z2⟩
    ·exact .inl z
    ·rcases get_set z1 with ⟨e,_⟩|⟨n1,h1⟩
     ·exact .inr ⟨i,_,hi,by rw [<-e];exact z2⟩
     ·exact .inr ⟨k,d',h1,z2⟩
   ·exact f.elim
  ·exact f.elim
theorem S9 (i:Nat) {x:Str}{k v:Expr}{mk mv:EV}{p pos':Pos}(hu:X.A.units+1<cLine) (hk:SE X G k mk) (hv:SF X G v mv) (hN:X.N[i]?=some x:=by rfl) (hvs:Vis X.env.scope x:=by first|exact Or.inl rfl|exact Or.inr (Or.inl rfl)|exact Or.inr (Or.inr rfl)) (hd:(x == ("__debug__":Str))=false:=by decide) (hcd:(x == ("__classdict__":Str))=false:=by decide)
  (hs:swapsWith v (some (.Subscript (.Name x p) k pos')) pos.line X.env=pure false:=by rfl):SS X G (.Assign [.Subscript (.Name x p) k pos'] v pos) (Qe i mk mv) :=
 (Uu hu (Kl hN hvs hd hcd) hk hv hs).imp λ D σ H z0=>z0.elim λ E z0=>z0.elim λ hr f=>by
  unfold Qe at f
  split at f
  ·rename_i kvs hi
   obtain⟨a,vs,e1,e2,e3,e4⟩:=Wb hr hi
   refine⟨E,hr,(Fin.bind f).mono λ d f v H1 s1 z1=>⟨_,e1,⟨E,hr.same s1,(Fin.bind f).mono λ k f w H2 s2 z2=>?_⟩⟩⟩
   cases ek:keyOf k with
   | none=>rw [ek] at f;exact f.elim
   | some ks =>
    rw [ek] at f
    dsimp only at f
    split at f
    ·rename_i hl
     obtain⟨b,rfl,hb⟩:=Iv ek z2
     have s:=s1.trans s2
     have e2':=s _ _ e2
     refine⟨a,_,rfl,Air.t e2' hb (by rw [e3.length,sizeLine_eq];omega),f _ _ ((hr.same s).write hi e1 ⟨_,Aj,?_⟩)⟩
     exact Rpk.write e4 (Rpk.put (e3.mono s λ _ z=>z) (z1.mono s2 λ _ z=>z))
    ·exact f.elim
  ·exact f.elim
end
structure Gd (X:Cx):Prop where
 calm:X.calm=true
 po:PassesOwn (model X.prog X.w) X.A X.env X.xe
 nd:X.N.Nodup
 un:X.A.units+40<cLine
def Qs (E:Ev) (σ:St) (a:Addr):Prop:=∃ (i:Nat) (d:D),E[i]?=some (.ow d)/\σ[i]?=some (some (.ref a))
open Classical in
noncomputable def Fc.lock (G:Fc) (E:Ev) (σ:St) (H:Hp):Fc:={ h0:=λ a=>if Qs E σ a then none else H a,pr:=G.pr,xc:=G.xc }
section
variable {K:PySem.W.Frag}{G:Fc}{E:Ev}{σ:St}{H H':Hp}
theorem Xg {a:Addr}(h:¬ Qs E σ a):(G.lock E σ H).h0 a=H a:=by unfold Fc.lock;simp [h]
theorem Rel.noOwn (r:Rel K G E σ H) {a:Addr}{o:HO}(h:G.h0 a=some o):¬ Qs E σ a:=by
 rintro⟨i,d,h1,h2⟩
 obtain⟨b,e1,_,e3⟩:=r.ow i d h1
 rw [h2] at e1;cases e1
 rw [h] at e3;cases e3
theorem Rel.sub (r:Rel K G E σ H):Same G.h0 (G.lock E σ H).h0:=λ a o h=>by rw [Xg (r.noOwn h)];exact r.base _ _ h
theorem Rel.lock (r:Rel K G E σ H):Rel K (G.lock E σ H) E σ H where
 len:=r.len
 fz:=r.fz
 ow:=λ i d h=>by
  obtain⟨a,e1,e2,e3⟩:=r.ow i d h
  refine⟨a,e1,e2,?_⟩
  have:Qs E σ a:=⟨i,d,h,e1⟩
  unfold Fc.lock;simp [this]
 ne:=r.ne
 base:=λ a o h=>by
  unfold Fc.lock at h
  dsimp only at h
  split at h
  ·cases h
  ·exact h
 prt:=λ a h=>by
  obtain⟨o,e,n⟩:=r.prt a h
  exact⟨_,by rw [Xg (r.noOwn e)];exact r.base _ _ e,n⟩
theorem Rel.weak {G':Fc}(r:Rel K G' E σ H) (s:Same G.h0 G'.h0) (e:G'.pr=G.pr) (p:∀ a,G.pr a->∃ o,G.h0 a=some o/\Kr o):Rel K G E σ H where
 len:=r.len
 fz:=by rw [<-e];exact r.fz
 ow:=λ i d h=>by
  rw [<-e]
  obtain⟨a,e1,e2,e3⟩:=r.ow i d h
  refine⟨a,e1,e2,?_⟩
  cases q:G.h0 a with
  | none=>rfl
  | some o=>rw [s _ _ q] at e3;cases e3
 ne:=r.ne
 base:=s.trans r.base
 prt:=p
end
structure Fc.Le (G G':Fc):Prop where
 h0:Same G.h0 G'.h0
 pr:∀ a o,G.h0 a=some o->G'.pr a->G.pr a
 sub:∀ a,G.pr a->G'.pr a
theorem Fc.Le.refl (G:Fc):G.Le G:=⟨Same.refl _,λ _ _ _ h=>h,λ _ h=>h⟩
theorem locked {K:PySem.W.Frag}{G G':Fc}{E E':Ev}{σ σ':St}{H H':Hp}(le:(G.lock E σ H).Le G') (r:Rel K G' E' σ' H'):∀ a o,¬ Ow G.pr E σ a->H a=some o->H' a=some o/\¬ Ow G'.pr E' σ' a:=λ a o no h=>by
 have hl:(G.lock E σ H).h0 a=some o:=by rw [Xg λ z=>no (.inr z)];exact h
 have hl':=le.h0 _ _ hl
 refine⟨r.base _ _ hl',λ z=>?_⟩
 rcases z with z|⟨i,d,h1,h2⟩
 ·exact no (.inl (le.pr _ _ hl z))
 ·obtain⟨b,e1,_,e3⟩:=r.ow i d h1
  rw [h2] at e1;cases e1
  rw [hl'] at e3;cases e3
def Ana (K:PySem.W.Frag) (G0:Fc) (J:It) (ds:List D):Prop :=
 ∀ (G:Fc) (E:Ev) (σ:St) (H:Hp),G0.Le G->Rel K G E σ H->J.stop ds.length H/\∀ (i:Nat) (d:D),ds[i]?=some d->J.go i H/\∀ x H',J.yld i H x H'->Same H H'/\Rp K H' (Ow G.pr E σ) d x
def SI (X:Cx) (G:Fc) (tg iter:Expr) (m:Ev->R (List D)):Prop :=
 PI X tg iter λ σ H Rr=>∃ E,Rel X.K G E σ H/\Fin (m E) (λ ds=>∀ J H1,Same H H1->Ana X.K (G.lock E σ H1) J ds->Rr J H1) G.xc
def SG (X:Cx) (tg:Expr) (ts:List Nat) (set:D->Ev->Option Ev):Prop :=
 ∃ g,PG X tg g/\∀ (G:Fc) (E E':Ev) (σ:St) (H:Hp) (d:D) (v:V) (Q:St->Hp->Prop),Rel X.K G E σ H->Rp X.K H (Ow G.pr E σ) d v->set d E=some E'->(∀ σ',(∀ j,j∉ts->σ'[j]?=σ[j]?)->Rel X.K G E' σ' H->Q σ' H)->g v σ H Q
noncomputable def gN (i:Nat):D->Ev->Option Ev:=λ d E=>some (E.set i (.fz d))
noncomputable def gT (i j:Nat):D->Ev->Option Ev:=λ d E=>match d with
 | .tup [a,b]=>some ((E.set i (.fz a)).set j (.fz b))
 | _=>none
noncomputable def forL (set:D->Ev->Option Ev) (b:EX):List D->Ev->R Out
 | [],E=>.ok (.nx E)
 | d :: ds,E=>match set d E with
  | none=>.no
  | some E1=>b E1 >>= λ o=>match o with
   | .nx E2=>forL set b ds E2
   | .ct E2=>forL set b ds E2
   | .bk E2=>.ok (.nx E2)
   | .rt d=>.ok (.rt d)
noncomputable def U7 (mi:Ev->R (List D)) (set:D->Ev->Option Ev) (b:EX):EX:=λ E=>mi E >>= λ ds=>forL set b ds E
noncomputable def Aa1 (c:Ev->R Bool) (b:EX):Nat->Ev->R Out
 | 0,_=>.no
 | n+1,E=>c E >>= λ k=>if k=true then (b E >>= λ o=>match o with
   | .nx E2=>Aa1 c b n E2
   | .ct E2=>Aa1 c b n E2
   | .bk E2=>.ok (.nx E2)
   | .rt d=>.ok (.rt d)) else .ok (.nx E)
section
variable {X:Cx}{G:Fc}{tg iter:Expr}{body:List Stmt}{pos:Pos}{mi:Ev->R (List D)}{set:D->Ev->Option Ev}{mb:EX}
theorem Br (gd:Gd X) (i:Nat) {x:Str}{pos:Pos}(hi:X.N[i]?=some x:=by rfl) (hx:Loc X.env.scope x:=by first|exact Or.inl rfl|exact Or.inr rfl) (hf:X.fn x=true\/X.env.scope.names.lookup x=some .local:=by first|exact .inl rfl|exact .inr rfl|assumption):SG X (.Name x pos) [i] (gN i) :=
 ⟨_,U5 gd.nd hi hx hf,λ G E E' σ H d v Q r p e k=>by
  unfold gN at e;cases e
  exact k _ (λ j hj=>Fz (by simpa using hj)) (r.setF p)⟩
theorem Ox (gd:Gd X) (i j:Nat) {x y:Str}{px py pos:Pos}{kk:Nat}(hi:X.N[i]?=some x:=by rfl) (hj:X.N[j]?=some y:=by rfl) (hx:Loc X.env.scope x:=by first|exact Or.inl rfl|exact Or.inr rfl) (hy:Loc X.env.scope y:=by first|exact Or.inl rfl|exact Or.inr rfl)
  (hf:X.fn x=true\/X.env.scope.names.lookup x=some .local:=by first|exact .inl rfl|exact .inr rfl|assumption) (hf':X.fn y=true\/X.env.scope.names.lookup y=some .local:=by first|exact .inl rfl|exact .inr rfl|assumption)
  (h1:(assignEach [Expr.Name x px,.Name y py] X.env).map (·.2)=assign (.Name x px) X.env :: (assignEach [.Name y py] X.env).map (·.2):=by rfl) (h2:(assignEach [Expr.Name y py] X.env).map (·.2)=assign (.Name y py) X.env :: (assignEach [] X.env).map (·.2):=by rfl)
  (hn:(assignEach [Expr.Name x px,.Name y py] X.env).length=2:=by rfl) (hst:(assignEach [Expr.Name x px,.Name y py] X.env).findIdx? (·.1)=none:=by rfl):SG X (.Tuple [.Name x px,.Name y py] kk pos) [i,j] (gT i j) :=
 ⟨_,Anl gd.calm (Z2 (U5 gd.nd hi hx hf) (Z2 (U5 gd.nd hj hy hf') Ali h2) h1) hn hst,λ G E E' σ H d v Q r p e k=>by
  unfold gT at e
  split at e
  ·rename_i a b
   cases e
   unfold Rp at p
   obtain⟨l,vs,rfl,no,hl,rs⟩:=p
   unfold Rps at rs
   obtain⟨v1,r1,rfl,p1,rs⟩:=rs
   unfold Rps at rs
   obtain⟨v2,r2,rfl,p2,rs⟩:=rs
   unfold Rps at rs
   subst rs
   refine⟨l,[v1,v2],rfl,SqT.of hl,rfl,v1,[v2],rfl,v2,[],rfl,rfl,k _ (λ k hk=>by
    simp only [List.mem_cons,not_or] at hk
    rw [Fz hk.2.1,Fz hk.1]) ((r.setF p1).setF (p2.mono (Same.refl _) λ _ z=>z.setF))⟩
  ·cases e⟩
theorem Zb {ts:List Nat}(gd:Gd X) (hi:SI X G tg iter mi) (hg:SG X tg ts set) (hb:∀ G',G'.xc=G.xc->Same G.h0 G'.h0->SB X G' body mb) (hs:∀ x,foldedSetIterable iter X.env x=pure x:=by intro _;rfl):SS X G (.For tg iter body [] pos) (U7 mi set mb):=by
 obtain⟨g,hg,hset⟩:=hg
 rintro pins s σ0 H0 Dn I ⟨E0,hr0,f0⟩
 -- the body's reading hangs on the lock: choose it within the rule
 have key:∀ (G':Fc),G'.xc=G.xc->PS X (.For tg iter body [] pos) (Asa (λ σ H Rr=>∃ E,Rel X.K G E σ H/\Fin (mi E) (λ ds=>∀ J H1,Same H H1->Ana X.K (G.lock E σ H1) J ds->Rr J H1) G.xc) g
   (λ Dn σ H=>∃ G',G'.xc=G.xc/\Same G.h0 G'.h0/\∃ E,Rel X.K G' E σ H/\Fin (mb E) (Pj X.K G' Dn) G'.xc)):=λ G' hG' =>
  Adz gd.po gd.calm hi hg (λ pins s σ H D I ⟨G',e,e',h⟩=>hb G' e e' pins s σ H D I h) hs
 refine key G rfl pins s σ0 H0 Dn I ⟨E0,hr0,(Fin.bind f0).mono λ ds f J H1 s1 it=>?_⟩
 have hr1:=hr0.same s1
 have hsub:=hr1.sub
 have wk:∀ {E:Ev} {σ:St} {H:Hp},Rel X.K (G.lock E0 σ0 H1) E σ H->Rel X.K G E σ H:=λ r=>r.weak hsub rfl hr0.prt
 refine⟨λ i m σ H=>∃ E,Rel X.K (G.lock E0 σ0 H1) E σ H/\i<=ds.length/\m=ds.length-i/\Fin (forL set mb (ds.drop i) E) (Pj X.K G Dn) G.xc,⟨ds.length,E0,hr1.lock,Nat.zero_le _,by simp,by simpa using f⟩,?_⟩
 rintro i m σ H ⟨E,r,hi',rfl,f⟩
 obtain⟨h1,h2⟩:=it _ E σ H (Fc.Le.refl _) r
 by_cases hlt:i<ds.length
 ·obtain⟨go,yl⟩:=h2 i ds[i] (by simp [hlt])
  rw [List.drop_eq_getElem_cons hlt] at f
  unfold forL at f
  cases hse:set ds[i] E with
  | none=>rw [hse] at f;exact f.elim
  | some E1 =>
   rw [hse] at f
   refine .inr ⟨go,λ σ' H'=>∃ E2,Rel X.K (G.lock E0 σ0 H1) E2 σ' H'/\Fin (forL set mb (ds.drop (i+1)) E2) (Pj X.K G Dn) G.xc,λ σ' H' ⟨E2,r2,f2⟩=>⟨ds.length-(i+1),by omega,E2,r2,hlt,rfl,f2⟩,λ x H' y=>?_⟩
   obtain⟨s2,px⟩:=yl x H' y
   refine hset _ E E1 σ H' ds[i] x _ (r.same s2) px hse λ σ' _ r'=>⟨G.lock E0 σ0 H1,rfl,hsub,E1,r',(Fin.bind f).mono λ o p=>?_⟩
   cases o with
   | nx E2=>exact λ σ2 H2 r2=>⟨E2,r2,p⟩
   | ct E2=>exact λ σ2 H2 r2=>⟨E2,r2,p⟩
   | bk E2=>exact λ σ2 H2 r2=>p σ2 H2 (wk r2)
   | rt d=>exact λ v H2 s2 z=>p v H2 (hsub.trans s2) z
 ·have e:i=ds.length:=by omega
  subst e
  rw [List.drop_length] at f
  exact .inl ⟨h1,f σ H (wk r)⟩
theorem J2 {ts:List Nat}(gd:Gd X) (hi:SI X G tg iter mi) (hg:SG X tg ts set) (hb:∀ G',G'.xc=G.xc->SB X G' body mb) (hs:∀ x,foldedSetIterable iter X.env x=pure x:=by intro _;rfl):SS X G (.For tg iter body [] pos) (U7 mi set mb):=Zb gd hi hg (λ G' e _=>hb G' e) hs
theorem Tz (gd:Gd X) (n:Nat) {c:Expr}{tc:Ev->R Bool}(hc:ST X G c tc) (hb:SB X G body mb):SS X G (.While c body [] pos) (Aa1 tc mb n) :=
 (Aal gd.po hc hb).imp λ Dn σ H z0=>z0.elim λ E z0=>z0.elim λ hr f=>by
  refine⟨λ m σ H=>∃ E,Rel X.K G E σ H/\Fin (Aa1 tc mb m E) (Pj X.K G Dn) G.xc,⟨n,E,hr,f⟩,?_⟩
  rintro m σ H ⟨E,hr,f⟩
  cases m with
  | zero=>exact f.elim
  | succ m =>
   unfold Aa1 at f
   refine⟨E,hr,(Fin.bind f).mono λ k p H' s=>?_⟩
   cases k with
   | true =>
    rw [if_pos rfl]
    refine⟨λ σ' H'=>∃ E2,Rel X.K G E2 σ' H'/\Fin (Aa1 tc mb m E2) (Pj X.K G Dn) G.xc,λ σ' H' q=>⟨m,Nat.lt_succ_self _,q⟩,E,hr.same s,(Fin.bind p).mono λ o p=>?_⟩
    cases o with
    | nx E2=>exact λ σ2 H2 r2=>⟨E2,r2,p⟩
    | ct E2=>exact λ σ2 H2 r2=>⟨E2,r2,p⟩
    | bk E2=>exact λ σ2 H2 r2=>p σ2 H2 r2
    | rt d=>exact λ v H2 s2 z=>p v H2 s2 z
   | false =>
    rw [if_neg Bool.false_ne_true]
    exact p σ H' (hr.same s)
noncomputable def iD (m:EV):Ev->R (List D):=λ E=>m E >>= λ d=>match d with
 | .lst ds=>.ok ds
 | _=>.no
noncomputable def iT (m:EV):Ev->R (List D):=λ E=>m E >>= λ d=>match d with
 | .tup ds=>.ok ds
 | _=>.no
noncomputable def iR1 (m:EV):Ev->R (List D):=λ E=>m E >>= λ d=>match d with
 | .int n=>if n.natAbs<1000000 then .ok ((List.range n.toNat).map λ (k:Nat)=>D.int (k:Int)) else .no
 | _=>.no
noncomputable def iR2 (m n:EV):Ev->R (List D):=λ E=>m E >>= λ d=>n E >>= λ e=>match d,e with
 | .int a,.int b=>if a.natAbs<1000000/\b.natAbs<1000000 then .ok ((List.range (b-a).toNat).map λ (k:Nat)=>D.int (a+(k:Int))) else .no
 | _,_=>.no
theorem _root_.L2.PI.imp {X:Cx}{tg e:Expr}{t t':TI}(h:PI X tg e t) (i:∀ σ H Q,t' σ H Q->t σ H Q):PI X tg e t':=λ pins s σ H Q I q=>h pins s σ H Q I (i σ H Q q)
theorem Dv {m:EV}(h:SF X G iter m):SI X G tg iter (iD m):=(Ae5 h).imp λ σ H Q z0=>z0.elim λ E z0=>z0.elim λ hr f=>⟨E,hr,(Fin.bind f).mono λ d p v H1 s1 z=>by
 cases d with
 | lst ds =>
  have z':=z
  unfold Rp at z
  obtain⟨a,vs,rfl,no,ha,rs⟩:=z
  refine⟨a,rfl,⟨vs,SqL.of ha⟩,p _ H1 s1 λ G' E' σ' H' le r'=>?_⟩
  have hl':=(locked le r' _ _ no ha).1
  refine⟨⟨vs,SqL.of hl',by rw [rs.length];exact Nat.le_refl _⟩,λ i d hd=>?_⟩
  obtain⟨v,hv,pv⟩:=rs.get hd
  refine⟨⟨vs,v,SqL.of hl',hv⟩,?_⟩
  rintro x H'' ⟨e,y⟩
  subst e
  refine⟨Same.refl _,?_⟩
  have:=y vs (SqL.of hl')
  rw [hv] at this;cases this
  exact pv.move (locked le r')
 | _=>exact p.elim⟩
theorem Z5 {K:PySem.W.Frag}{G:Fc}(lo:Int) (n:Nat):Ana K G (Itr lo n) ((List.range n).map λ (k:Nat)=>D.int (lo+(k:Int))):=λ G' E σ H le r=>by
 refine⟨by simp [Itr],λ i d hd=>?_⟩
 rw [List.getElem?_map] at hd
 have hi:i<n:=by
  by_cases h:i<n
  ·exact h
  ·rw [List.getElem?_eq_none (by simpa using h)] at hd;cases hd
 rw [List.getElem?_range hi] at hd
 cases hd
 refine⟨hi,λ x H' y=>?_⟩
 obtain⟨rfl,rfl⟩:=y
 exact⟨Same.refl _,by unfold Rp;rfl⟩
theorem Pr {a:Expr}{m:EV}{p pos:Pos}(hg:Gl X "range") (hm:X.mg "range"=none) (ha:SF X G a m) (hs:starEach [a] X.env=[(false,eval a X.env)]:=by rfl):SI X G tg (.Call (.Name "range" p) [a] [] pos) (iR1 m) :=
 (Ac0 hg hm (Ak ha Bl hs) hs).imp λ σ H Q z0=>z0.elim λ E z0=>z0.elim λ hr f=>⟨E,hr,(Fin.bind f).mono λ d p v H1 s1 z=>by
  cases d with
  | int n =>
   dsimp only at p
   split at p
   ·rename_i hn
    unfold Rp at z
    subst z
    refine⟨n,rfl,by omega (config:={}),by omega (config:={}),p _ H1 s1 ?_⟩
    have:=Z5 (K:=X.K) (G:=G.lock E σ H1) 0 n.toNat
    simp only [Int.zero_add] at this
    exact this
   ·exact p.elim
  | _=>exact p.elim⟩
theorem Vw {a b:Expr}{m n:EV}{p pos:Pos}(hg:Gl X "range") (hm:X.mg "range"=none) (ha:SF X G a m) (hb:SF X G b n) (hs:starEach [a,b] X.env=[(false,eval a X.env),(false,eval b X.env)]:=by rfl) (hs2:starEach [b] X.env=[(false,eval b X.env)]:=by rfl) :
  SI X G tg (.Call (.Name "range" p) [a,b] [] pos) (iR2 m n) :=
 (Aef hg hm (Ak ha (Ak hb Bl hs2) (by rw [hs,hs2])) hs hs2).imp λ σ H Q z0=>z0.elim λ E z0=>z0.elim λ hr f=>⟨E,hr,(Fin.bind f).mono λ d p v H1 s1 z=>⟨E,hr.same s1,(Fin.bind p).mono λ e p w H2 s2 y=>by
  cases d with
  | int n =>
   cases e with
   | int k =>
    dsimp only at p
    split at p
    ·rename_i hn
     unfold Rp at z y
     subst z y
     exact⟨n,k,rfl,⟨by omega (config:={}),by omega (config:={}),by omega (config:={}),by omega (config:={})⟩,p _ H2 (s1.trans s2) (Z5 _ _)⟩
    ·exact p.elim
   | _=>exact p.elim
  | _=>exact p.elim⟩⟩
end
noncomputable def spD (K:PySem.W.Frag) (n:Nat) (den:List D->R D):Sp:=λ vs H Q _=>vs.length=n/\∃ (pr:Addr->Prop) (ds:List D),(∀ a,pr a->∃ o,H a=some o/\Kr o)/\Rps K H pr ds vs/\Fin (den ds) (λ d=>∀ v H',Same H H'->Rp K H' pr d v->Q v H') λ _=>False
noncomputable def ended (r:R Out):R D:=r >>= λ o=>match o with
 | .rt d=>.ok d
 | .nx _=>.ok .non
 | _=>.no
noncomputable def Ft (n:Nat) (ds:List D):Ev:=ds.map Sl.fz++List.replicate (n-ds.length) .un
noncomputable def den (n:Nat) (m:EX):List D->R D:=λ ds=>ended (m (Ft n ds))
theorem W8 {K:PySem.W.Frag}{H:Hp}{pr:Addr->Prop}{xc:Nat->Prop}{N:List Str}{ds:List D}{vs:List V}(hp:∀ a,pr a->∃ o,H a=some o/\Kr o) (r:Rps K H pr ds vs):Rel K ⟨H,pr,xc⟩ (Ft N.length ds) (L2.start N vs) H:=by
 have none_ow:∀ (i:Nat) d,(Ft N.length ds)[i]?≠some (.ow d):=λ i d h=>by
  unfold Ft at h
  rcases Nat.lt_or_ge i (ds.map Sl.fz).length with hi|hi
  ·rw [List.getElem?_append_left hi,List.getElem?_map] at h
   cases q:ds[i]? with
   | none=>rw [q] at h;cases h
   | some x=>rw [q] at h;cases h
  ·rw [List.getElem?_append_right hi,List.getElem?_replicate] at h
   split at h<;>cases h
 refine⟨?_,λ i d h=>?_,λ i d h=>absurd h (none_ow i d),λ i j d e a h=>absurd h (none_ow i d),Same.refl _,hp⟩
 ·unfold Ft L2.start
  simp [r.length]
 ·unfold Ft at h
  rcases Nat.lt_or_ge i (ds.map Sl.fz).length with hi|hi
  ·rw [List.getElem?_append_left hi,List.getElem?_map] at h
   cases q:ds[i]? with
   | none=>rw [q] at h;cases h
   | some x =>
    rw [q] at h;cases h
    obtain⟨v,e,p⟩:=r.get q
    refine⟨v,?_,p.mono (Same.refl _) λ a z=>?_⟩
    ·unfold L2.start
     rw [List.getElem?_append_left (by rw [List.length_map,r.length];simpa using hi),List.getElem?_map,e];rfl
    ·rcases z with z|⟨j,d',z,_⟩
     ·exact z
     ·exact absurd z (none_ow j d')
  ·rw [List.getElem?_append_right hi,List.getElem?_replicate] at h
   split at h<;>cases h
abbrev bx (P:Program) (w:World) (K:PySem.W.Frag) (mg:Str->Option Value) (base:Heap) (N:List Str) (qual:Str) (sc:Scope) (f:Addr) (cdv:Value) (A:Around) (outer:List Env) (s:Shared) (H:Hp) (E:XK):Cx:=(Ajo CX0 P w K mg base N qual sc f cdv A outer s H E).nox
section
variable {P:Program}{w:World}{K:PySem.W.Frag}{mg:Str->Option Value}{base:Heap}{x qual:Str}{st:Stmt}{f:Addr}{fd:FuncData}{N ps:List Str}{k:Nat}{m:EX}
end
section
variable {X:Cx}{G:Fc}{k:Nat}{f:Addr}{fd:FuncData}{ps:List Str}{dn:List D->R D}{x:Str}{p pos:Pos}{e:Expr}{es:List Expr}{ma:Ev->R (List D)}
noncomputable def Am (n:Nat) (dn:List D->R D) (ma:Ev->R (List D)):EV:=λ E=>ma E >>= λ ds=>if ds.length=n then dn ds else .no
theorem Amn {n:Nat}(F:FnOk X.prog X.w X.K X.mg X.base CX0 k f fd ps (spD X.K n dn)) (hx:∀ c,¬ G.xc c) (hr:Room k X.A) (hg:Gl X x) (hm:X.mg x=some (.ref f)) (hk:PySem.W.keepIn X.K (.ref f)=true) (hb:Binds X.K fd ps [])
  (ha:SA X G (e :: es) ma) (hdb:(x == ("__debug__":Str))=false:=by decide) (he:starEach (e :: es) X.env=(false,eval e X.env) :: starEach es X.env:=by rfl) (hpl:(backTo pos (starEach es X.env)).any (·.1)=false:=by rfl) :
  SF X G (.Call (.Name x p) (e :: es) [] pos) (Am n dn ma) :=
 (Di F hr hg hm hk hb .nil Ja ha hdb he hpl).imp λ σ H Q z0=>z0.elim λ E z0=>z0.elim λ hr f=>⟨E,hr,(Fin.bind f).mono λ ds p vs H1 s1 rs=>by
  split at p
  ·rename_i hl
   refine⟨by rw [List.append_nil,rs.length];exact hl,Ow G.pr E σ,ds,λ a z=>(hr.same s1).owned z,by rw [List.append_nil];exact rs,?_⟩
   revert p
   cases dn ds with
   | ok d=>exact λ p v H' s z=>p v H' (s1.trans s) z
   | er c=>exact λ p=>hx c p
   | no=>exact λ p=>p
  ·exact p.elim⟩
end
section
variable {prog:Program}{w:World}{A:Around}{R:Result->Shared->Prop}{s:Shared}
theorem Yj {elt target iter:Expr}{ifs:List Expr}{scope:Scope}{pos:Pos}{it acc:Value}{env:Env}(I:Nat->Shared->Prop)
  (turn:∀ n s,I n s->wpAny (model prog w) A (pyNext it) (λ r s₁=>match r with
   | none=>R (.ok .next) s₁
   | some v=>wpAny (model prog w) A (letOwnedTupleGo target it v) (λ _ s₁'=>wpAny (model prog w) A (assign target env v) (λ _ s₂ =>
     wpAny (model prog w) A (forIn ifs true λ c r=>if r=true then do let ok ← isTrue c env (eval c env);pure (ForInStep.yield ok) else pure (ForInStep.yield r)) (λ ok s₃ =>
      if ok=true then wpAny (model prog w) A (eval elt env) (λ x s₄ =>
       wpAny (model prog w) A (call (.builtin "list.append") [acc,x]) (λ _ s₅=>∃ m,m<n/\I m s₅) (λ _ _=>False) s₄) (λ _ _=>False) s₃
      else ∃ m,m<n/\I m s₃) (λ _ _=>False) s₂) (λ _ _=>False) s₁') (λ _ _=>False) s₁) (λ _ _=>False) s)
  (n:Nat) (h:I n s):codeAny (model prog w) A (.compLoop (.ListComp elt [⟨target,iter,ifs,0⟩] scope pos) 0 it acc env) R s:=by
 refine codeAny_loop rfl I (λ n s hI=>?_) n h
 show wpAny _ A ((compTurn (.ListComp elt [⟨target,iter,ifs,0⟩] scope pos) 0 it acc env).onRaise (λ x=>do noteFrame x env;theTreesLotGoes x)) _ _ s
 refine wpAny_noted ?_
 rw [compTurn_list]
 refine wpAny_bind (wpAny_standAt (wpAny_bind (wpAny_mono (turn n s hI) (λ r s₁ h₁=>?_) λ _ _ h'=>h'.elim)))
 cases r with
 | none=>exact wpAny_pure h₁
 | some v =>
  refine wpAny_bind (wpAny_mono h₁ (λ _ s₁' h₁'=>?_) λ _ _ h'=>h'.elim)
  refine wpAny_bind (wpAny_mono h₁' (λ _ s₂ h₂=>wpAny_bind (wpAny_mono h₂ (λ ok s₃ h₃=>?_) λ _ _ h'=>h'.elim)) λ _ _ h'=>h'.elim)
  cases ok with
  | false=>exact wpAny_pure ⟨rfl,h₃⟩
  | true =>
   exact wpAny_bind (wpAny_bind (wpAny_mono h₃ (λ x s₄ h₄=>wpAny_bind (wpAny_mono h₄ (λ _ s₅ h₅=>wpAny_pure (wpAny_pure ⟨rfl,h₅⟩)) λ _ _ h'=>h'.elim)) λ _ _ h'=>h'.elim))
end
noncomputable def Agf (names:List (Str × NameKind)) (env:Env):List (Str × Addr)->List (Str × Addr)
 | cs=>names.foldl (λ cs p=>if p.2 == .free then match env.cells.lookup p.1 with|some a=>(p.1,a) :: cs|none=>cs else cs) cs
theorem Ju {env:Env}{cs:List (Str × Addr)}{p:Str × NameKind}{r:List (Str × NameKind)}:Agf (p :: r) env cs=Agf r env (if p.2 == .free then match env.cells.lookup p.1 with|some a=>(p.1,a) :: cs|none=>cs else cs):=rfl
theorem Aaz {scope:Scope}{env:Env}(h:∀ p∈scope.names,p.2=.free->∃ c,env.cells.lookup p.1=some c):closureFor scope env=pure (Agf scope.names env []):=by
 unfold closureFor
 have go:∀ (l:List (Str × NameKind)) (cs:List (Str × Addr)),(∀ p∈l,p.2=.free->∃ c,env.cells.lookup p.1=some c) →
   (forIn l cs λ (x:Str × NameKind) r=>(match x with|(name,kind)=>if (kind == NameKind.free)=true then do let a ← cellOf env name;pure (ForInStep.yield ((name,a) :: r)) else pure (ForInStep.yield r):Sem (ForInStep (List (Str × Addr)))))=pure (Agf l env cs):=by
  intro l
  induction l with
  | nil=>intro cs _;rfl
  | cons p r ih =>
   intro cs hp
   obtain⟨name,kind⟩:=p
   rw [List.forIn_cons]
   dsimp only
   by_cases hk:kind=.free
   ·subst hk
    obtain⟨c,hc⟩:=hp _ List.mem_cons_self rfl
    have e1:cellOf env name=pure c:=by unfold cellOf;rw [show env.cells.lookup name=some c from hc]
    simp only [beq_self_eq_true,if_true,e1,pure_bind]
    rw [ih _ λ q hq=>hp q (List.mem_cons_of_mem _ hq),Ju]
    simp only [beq_self_eq_true,if_true]
    rw [show env.cells.lookup name=some c from hc]
   ·have hb:(kind == NameKind.free)=false:=by simpa using hk
    simp only [hb,Bool.false_eq_true,if_false,pure_bind]
    rw [ih _ λ q hq=>hp q (List.mem_cons_of_mem _ hq),Ju]
    simp only [hb,Bool.false_eq_true,if_false]
 have:=go scope.names [] h
 simp only [bind_pure]
 exact this
theorem Ho {env:Env}:∀ {l:List (Str × NameKind)}{cs:List (Str × Addr)}{x:Str}{c:Addr},(Agf l env cs).lookup x=some c->cs.lookup x=some c\/((x,.free)∈l/\env.cells.lookup x=some c)
 | [],cs,x,c,h=>.inl h
 | (n,k) :: r,cs,x,c,h=>by
  rw [Ju] at h
  rcases Ho h with h|⟨h1,h2⟩
  ·by_cases hk:k=.free
   ·subst hk
    simp only [beq_self_eq_true,if_true] at h
    cases e:env.cells.lookup n with
    | none=>rw [e] at h;exact .inl h
    | some a =>
     rw [e] at h
     dsimp only at h
     rw [List.lookup_cons] at h
     cases hx:x == n with
     | true =>
      rw [hx] at h
      cases h
      have:=eq_of_beq hx
      subst this
      exact .inr ⟨List.mem_cons_self,e⟩
     | false=>rw [hx] at h;exact .inl h
   ·have hb:(k == NameKind.free)=false:=by simpa using hk
    simp only [hb,Bool.false_eq_true,if_false] at h
    exact .inl h
  ·exact .inr ⟨List.mem_cons_of_mem _ h1,h2⟩
theorem U8 {env:Env}{x:Str}:∀ {l:List (Str × NameKind)}{cs:List (Str × Addr)},(∃ c,cs.lookup x=some c)->∃ c,(Agf l env cs).lookup x=some c
 | [],cs,h=>h
 | (n,k) :: r,cs,h=>by
  rw [Ju]
  apply U8
  by_cases hk:(k == NameKind.free)=true
  ·rw [if_pos hk]
   cases e:env.cells.lookup n with
   | none=>exact h
   | some a =>
    dsimp only
    rw [List.lookup_cons]
    cases hx:x == n with
    | true=>exact⟨a,rfl⟩
    | false=>exact h
  ·rw [if_neg hk];exact h
theorem Ut {env:Env}{x:Str}{c:Addr}(hc:env.cells.lookup x=some c):∀ {l:List (Str × NameKind)}{cs:List (Str × Addr)},(x,.free)∈l->∃ c,(Agf l env cs).lookup x=some c
 | [],cs,h=>by simp at h
 | (n,k) :: r,cs,h=>by
  rw [Ju]
  rcases List.mem_cons.mp h with h|h
  ·cases h
   apply U8
   simp only [beq_self_eq_true,if_true]
   rw [hc]
   exact⟨c,by simp [List.lookup_cons]⟩
  ·exact Ut hc h
noncomputable def cxc (X:Cx) (scope:Scope) (s3:Shared) (H3:Hp) (fp:List Addr) (C:Addr):Cx :=
 { X with env:=compEnvC scope (Agf scope.names X.env []) C X.env,outer:=X.stack,s₀:=s3,H₀:=H3,ex:=fp,fn:=λ x=>decide (scope.names.lookup x=some .local),pn:=[],xe:=λ _ _=>False }
structure CScope (X:Cx) (scope:Scope):Prop where
 kind:scope.kind=.function
 nocell:∀ y∈scope.names,y.2≠.cell
 names:∀ y∈scope.names,scope.names.lookup y.1=some y.2
 free:∀ y∈scope.names,y.2=.free->X.env.kindOf y.1=some .cell\/X.env.kindOf y.1=some .free
section
variable {X:Cx}{scope:Scope}{pins:List (Addr × Obj)}{σ:St}{H:Hp}{s:Shared}
theorem Hz {env:Env}:∀ {names:List (Str × NameKind)}{x:Str}{k:NameKind},(names.map λ (n,k)=>if (k == NameKind.free && env.scope.kind == .function && env.kindOf n == some .cell) then (n,NameKind.cell) else (n,k)).lookup x=some k →
  ∃ k0,names.lookup x=some k0/\(k=k0\/(k0=.free/\k=.cell))
 | [],x,k,h=>by simp at h
 | (n,k0) :: r,x,k,h=>by
  rw [List.map_cons] at h
  have key:∀ p:Str × NameKind,p.1=n->(p.2=k0\/(k0=.free/\p.2=.cell))->List.lookup x (p :: List.map (λ (n,k)=>if (k == NameKind.free && env.scope.kind == .function && env.kindOf n == some .cell) then (n,NameKind.cell) else (n,k)) r)=some k →
    ∃ k0',List.lookup x ((n,k0) :: r)=some k0'/\(k=k0'\/(k0'=.free/\k=.cell)):=λ p hp hk hl=>by
   obtain⟨p1,p2⟩:=p
   dsimp only at hp hk
   subst hp
   rw [List.lookup_cons] at hl ⊢
   cases hx:x == p1 with
   | true=>rw [hx] at hl;cases hl;exact⟨k0,rfl,hk⟩
   | false=>rw [hx] at hl;exact Hz hl
  dsimp only at h
  split at h
  ·rename_i hc
   refine key _ rfl (.inr ⟨?_,rfl⟩) h
   simp only [Bool.and_eq_true,beq_iff_eq] at hc
   exact hc.1.1
  ·exact key _ rfl (.inl rfl) h
theorem Aq5 (S:CScope X scope) (I:Inv X pins σ H s) {fp:List Addr}(f:∀ b∈fp,Ab1 X pins H b) (lt:∀ b∈fp,b<s.heap.objs.size):(cxc X scope s H fp s.heap.objs.size).Ok where
 mod:=I.ok.mod
 kind:=S.kind
 glob:=I.ok.glob
 blt:=I.ok.blt
 above:=Nat.le_refl _
 inj:=λ x y c h1 h2=>by
  rcases Ho h1 with h|⟨_,h1⟩
  ·simp at h
  rcases Ho h2 with h|⟨_,h2⟩
  ·simp at h
  exact I.ok.inj x y c h1 h2
 has:=λ x hx=>by
  have hx':∃ k,(relabel scope X.env).names.lookup x=some k/\(k=.cell\/k=.free):=by
   rcases hx with hx|hx
   ·exact⟨_,hx,.inl rfl⟩
   ·exact⟨_,hx,.inr rfl⟩
  obtain⟨k,hk,hk2⟩:=hx'
  obtain⟨k0,h0,hh⟩:=Hz hk
  have hm:=PySem.mem_of_lookup h0
  have hf:k0=.free:=by
   rcases hh with rfl|⟨h,_⟩
   ·rcases hk2 with rfl|rfl
    ·exact absurd rfl (S.nocell _ hm)
    ·rfl
   ·exact h
  subst hf
  obtain⟨c,hc⟩:=I.ok.has x (S.free _ hm rfl)
  exact Ut hc hm
 cab:=λ x c hf h=>by
  have hl:scope.names.lookup x=some .local:=by simpa [cxc] using hf
  rcases Ho h with h|⟨h1,_⟩
  ·simp at h
  ·have:=S.names _ h1
   rw [hl] at this;cases this
 hd:=I.ok.hd
 frames:=I.ok.frames
 stk:=.inl rfl
 exf:=λ b hb=>⟨Nat.ne_of_lt (lt b hb),λ x c h=>by
  rcases Ho h with h|⟨_,h⟩
  ·simp at h
  ·exact (f b hb).2.2.2.2.1 x c h⟩
 bs:=I.bs
 bsz:=Nat.le_trans I.ok.bsz I.sz
 noex:=λ b o e hb=>by
  rcases (f b hb).2.2.2.1 with h|h
  ·exact I.ok.noex b o e h
  ·have h2:b<X.base.objs.size:=Heap.lt_size e
   exact absurd (Nat.lt_of_lt_of_le h2 (Nat.le_trans I.ok.bsz h)) (Nat.lt_irrefl _)
 exfs:=λ b hb z=>by
  rcases List.mem_cons.mp (I.stkSub b z) with z|z
  ·exact (f b hb).2.1 z
  ·exact (f b hb).2.2.1 z
 funs:=I.stack
 frf:=I.stkFree
noncomputable def clr:List Nat->Ev->Ev
 | [],E=>E
 | i :: r,E=>clr r (E.set i .un)
noncomputable def Ad1:List Nat->St->St
 | [],σ=>σ
 | i :: r,σ=>Ad1 r (σ.set i none)
theorem Tg:∀ (ts:List Nat) (σ:St),(Ad1 ts σ).length=σ.length
 | [],σ=>rfl
 | i :: r,σ=>by unfold Ad1;rw [Tg r];simp
theorem Nz:∀ (ts:List Nat) (σ:St) (j:Nat),(Ad1 ts σ)[j]?=if j∈ts then (if j<σ.length then some none else none) else σ[j]?
 | [],σ,j=>by simp [Ad1]
 | i :: r,σ,j=>by
  unfold Ad1
  rw [Nz r]
  by_cases h:j∈r
  ·simp [h]
  ·by_cases e:j=i
   ·subst e
    simp only [h,if_false,List.mem_cons,true_or,if_true]
    by_cases hl:j<σ.length
    ·rw [Ln hl];simp [hl]
    ·simp [hl]
   ·simp only [h,if_false,List.mem_cons,e,or_self,if_false]
    exact Fz e
theorem O6:∀ (ts:List Nat) (E:Ev) (j:Nat),(clr ts E)[j]?=if j∈ts then (if j<E.length then some .un else none) else E[j]?
 | [],σ,j=>by simp [clr]
 | i :: r,σ,j=>by
  unfold clr
  rw [O6 r]
  by_cases h:j∈r
  ·simp [h]
  ·by_cases e:j=i
   ·subst e
    simp only [h,if_false,List.mem_cons,true_or,if_true]
    by_cases hl:j<σ.length
    ·rw [Ln hl];simp [hl]
    ·simp [hl]
   ·simp only [h,if_false,List.mem_cons,e,or_self,if_false]
    exact Fz e
theorem Agd (ts:List Nat):∀ (E:Ev),(clr ts E).length=E.length:=by
 induction ts with
 | nil=>intro E;rfl
 | cons i r ih=>intro E;unfold clr;rw [ih];simp
theorem Hl {ts:List Nat}{E:Ev}{j:Nat}{x:Sl}(hx:x≠.un) (h:(clr ts E)[j]?=some x):j∉ts/\E[j]?=some x:=by
 rw [O6] at h
 by_cases hj:j∈ts
 ·rw [if_pos hj] at h
  split at h
  ·cases h;exact absurd rfl hx
  ·cases h
 ·rw [if_neg hj] at h
  exact⟨hj,h⟩
theorem Agb (S:CScope X scope) (I:Inv X pins σ H s) {fp:List Addr}(f:∀ b∈fp,Ab1 X pins H b) (lt:∀ b∈fp,b<s.heap.objs.size) {ts:List Nat}(hts:∀ (i:Nat) x,X.N[i]?=some x->scope.names.lookup x=some .local->i∈ts)
  {h':Heap} (hns:h'.Ns s.heap.objs.size λ _=>none) (keep:∀ b o,s.heap.get? b=some o->h'.get? b=some o) {tk:Nat}:Inv (cxc X scope s H fp s.heap.objs.size) [] (Ad1 ts σ) H { s with heap:=h',toks:=tk }:=by
 refine⟨Aq5 S I f lt,rfl,I.bare,Un.kept keep,⟨_,hns,λ i x v h1 h2 h3=>?_⟩,λ x c h=>?_,I.hok.fresh (Nat.le_refl _),λ x c h=>?_,λ p hp=>absurd hp (by simp [cxc]),I.hok.kept keep,?_⟩
 ·have h1:X.N[i]?=some x:=h1
  have hi:i∉ts/\σ[i]?=some (some v):=by
   rw [Nz] at h2
   by_cases hj:i∈ts
   ·rw [if_pos hj] at h2
    split at h2<;>cases h2
   ·rw [if_neg hj] at h2
    exact⟨hj,h2⟩
  have hk:∃ k,(relabel scope X.env).names.lookup x=some k/\(k=.local\/k=.cell\/k=.free):=by
   rcases h3 with h|h|h
   ·exact⟨_,h,.inl rfl⟩
   ·exact⟨_,h,.inr (.inl rfl)⟩
   ·exact⟨_,h,.inr (.inr rfl)⟩
  obtain⟨k,hk,hk2⟩:=hk
  obtain⟨k0,h0,hh⟩:=Hz hk
  have hm:=PySem.mem_of_lookup h0
  have hf:k0=.free:=by
   rcases hh with rfl|⟨h,_⟩
   ·rcases hk2 with rfl|rfl|rfl
    ·exact absurd (hts i x h1 h0) hi.1
    ·exact absurd rfl (S.nocell _ hm)
    ·rfl
   ·exact h
  subst hf
  have hk3:k=.cell\/k=.free:=by
   rcases hh with rfl|⟨_,h⟩
   ·exact .inr rfl
   ·exact .inl h
  obtain⟨m,_,hl⟩:=I.loc
  have kx:=S.free _ hm rfl
  have vis:Vis X.env.scope x:=by
   rcases kx with kx|kx
   ·exact .inr (.inl kx)
   ·exact .inr (.inr kx)
  obtain⟨u,ru,lk⟩:=hl i x v h1 hi.2 vis
  refine⟨u,ru,?_⟩
  rcases lk with ⟨q,_⟩|⟨_,c,hc,hcell⟩
  ·exfalso
   rcases kx with kx|kx<;>(have z:=q.symm.trans kx;cases z)
  ·obtain⟨c',hc'⟩:=Ut hc (cs:=[]) hm
   have:c'=c:=by
    rcases Ho hc' with z|⟨_,z⟩
    ·simp at z
    ·exact Option.some.inj (z.symm.trans hc)
   subst this
   refine .inr ⟨?_,c',hc',?_⟩
   ·rcases hk3 with rfl|rfl
    ·exact .inl hk
    ·exact .inr hk
   ·obtain⟨o,e,rest⟩:=hcell
    exact⟨o,keep _ _ e,rest⟩
 ·rcases Ho h with z|⟨_,z⟩
  ·simp at z
  ·obtain⟨v,o,e,rest⟩:=I.cell x c z
   exact⟨v,o,keep _ _ e,rest⟩
 ·rcases Ho h with z|⟨_,z⟩
  ·simp at z
  ·exact I.freeC x c z
 ·rw [Tg];exact I.len
end
noncomputable def K5 (set:D->Ev->Option Ev) (mt:Ev->R Bool) (me:EV) (E:Ev):List D->R (List D)
 | []=>.ok []
 | d :: ds=>match set d E with
  | none=>.no
  | some E1=>mt E1 >>= λ k=>if k=true then (me E1 >>= λ y=>K5 set mt me E ds >>= λ ys=>.ok (y :: ys)) else K5 set mt me E ds
noncomputable def Anh (ts:List Nat) (E:Ev):Bool:=ts.all λ i=>match E[i]? with
 | some (.ow _)=>false
 | _=>true
noncomputable def Hh (ts:List Nat) (set:D->Ev->Option Ev) (mi:Ev->R (List D)) (mt:Ev->R Bool) (me:EV):EV:=λ E =>
 if Anh ts E=true then (mi E >>= λ ds=>if ds.length<=1000000 then (K5 set mt me (clr ts E) ds >>= λ ys=>.ok (.lst ys)) else .no) else .no
def SC (X:Cx) (G:Fc) (ifs:List Expr) (mt:Ev->R Bool):Prop :=
 ∀ (pins:List (Addr × Obj)) (s:Shared) (σ:St) (H:Hp) (Q:Bool->Hp->Prop),Inv X pins σ H s->(∃ E,Rel X.K G E σ H/\Fin (mt E) (λ b=>∀ H',Same H H'->Q b H') G.xc) →
  wpAny (model X.prog X.w) X.A (forIn ifs true λ c r=>if r=true then do let ok ← isTrue c X.env (eval c X.env);pure (ForInStep.yield ok) else pure (ForInStep.yield r)) (TP X pins σ Q) X.xe s
noncomputable def Kh:Ev->R Bool:=λ _=>.ok true
section
variable {X:Cx}{G:Fc}
theorem Ig:SC X G [] Kh:=λ pins s σ H Q I ⟨E,hr,f⟩=>wpAny_pure ⟨H,I,f H (Same.refl _)⟩
theorem Rx {c:Expr}{mt:Ev->R Bool}(h:ST X G c mt):SC X G [c] mt:=by
 rintro pins s σ H Q I ⟨E,hr,f⟩
 rw [List.forIn_cons]
 simp only [if_true]
 refine wpAny_bind (wpAny_bind (thn (h pins s σ H Q I ⟨E,hr,f⟩) λ b s1 q=>wpAny_pure ?_))
 exact wpAny_pure q
end
theorem Un.post {fs ex:List Addr}{H H1:Hp}{h h1 h2:Heap}{C:Addr}(u:Un fs ex H H1 h h1) (k:∀ b o,b≠C->h1.get? b=some o->h2.get? b=some o) (n:∀ b o,h.get? b=some o->b≠C):Un fs ex H H1 h h2 where
 keep:=λ b o q m hb he=>k b o (n b o q) (u.keep b o q m hb he)
 slot:=λ b o q m hb he=>by obtain⟨sl,e⟩:=u.slot b o q m hb he;exact⟨sl,k b _ (n b o q) e⟩
 free:=u.free
 there:=λ b o q he=>by obtain⟨o',e⟩:=u.there b o q he;exact⟨o',k b _ (n b o q) e⟩
 tups:=u.tups
 frzs:=u.frzs
 tbls:=u.tbls
theorem HOk.post {P:Program}{w:World}{H:Hp}{h h':Heap}{C:Addr}(x:HOk P w H h) (n:H C=none) (k:∀ b o,b≠C->h.get? b=some o->h'.get? b=some o):HOk P w H h':=λ a o e =>
 (x a o e).stay (λ b u hb q=>k b u (by
  rcases hb with rfl|hb
  ·exact λ z=>by subst z;rw [n] at e;cases e
  ·exact λ z=>by subst z;rw [n] at hb;cases hb) q) (λ _ q=>q) λ _ _ q=>q
section
variable {K:PySem.W.Frag}{G:Fc}{E:Ev}{σ:St}{H H':Hp}
noncomputable def Fc.in (G:Fc) (E:Ev) (σ:St) (H:Hp) (L:Addr) (vs:List V):Fc:=⟨λ b=>if b=L then some (.lst vs) else (G.lock E σ H).h0 b,λ a=>G.pr a\/a=L,G.xc⟩
theorem Aqz {L:Addr}{vs:List V}(n:H L=none):(G.lock E σ H).Le (G.in E σ H L vs) where
 h0:=λ b o h=>by
  have hb:b≠L:=λ z=>by
   subst z
   unfold Fc.lock at h
   dsimp only at h
   split at h
   ·cases h
   ·rw [n] at h;cases h
  unfold Fc.in
  simp only [hb,if_false]
  exact h
 pr:=λ b o h z=>by
  rcases z with z|z
  ·exact z
  ·subst z
   unfold Fc.lock at h
   dsimp only at h
   split at h
   ·cases h
   ·rw [n] at h;cases h
 sub:=λ a h=>.inl h
theorem Aqy {pr:Addr->Prop}{ts:List Nat}{σ':St}{a:Addr}(hσ:∀ j,j∉ts->σ'[j]?=σ[j]?) (h:Ow pr (clr ts E) σ' a):Ow pr E σ a:=by
 rcases h with h|⟨i,d,h1,h2⟩
 ·exact .inl h
 ·obtain⟨hi,h1⟩:=Hl (by intro z;cases z) h1
  rw [hσ i hi] at h2
  exact .inr ⟨i,d,h1,h2⟩
theorem Al8 {pr:Addr->Prop}{ts:List Nat}{σ':St}{a:Addr}(no:Anh ts E=true) (hσ:∀ j,j∉ts->σ'[j]?=σ[j]?) (h:Ow pr E σ a):Ow pr (clr ts E) σ' a:=by
 rcases h with h|⟨i,d,h1,h2⟩
 ·exact .inl h
 ·have hi:i∉ts:=λ hi=>by
   have:=List.all_eq_true.mp no i hi
   rw [h1] at this
   cases this
  exact .inr ⟨i,d,by rw [O6,if_neg hi];exact h1,by rw [hσ i hi];exact h2⟩
theorem Rel.block {ts:List Nat}{L:Addr}(r:Rel K G E σ H) (n:H L=none):Rel K (G.in E σ H L []) (clr ts E) (Ad1 ts σ) (upd H L (.lst [])):=by
 have hσ:∀ j,j∉ts->(Ad1 ts σ)[j]?=σ[j]?:=λ j hj=>by rw [Nz,if_neg hj]
 have sub:∀ b,Ow (G.in E σ H L []).pr (clr ts E) (Ad1 ts σ) b->Ow G.pr E σ b\/b=L:=λ b h=>by
  rcases h with (h|h)|h
  ·exact .inl (.inl h)
  ·exact .inr h
  ·exact .inl (Aqy hσ (.inr h))
 refine⟨by rw [Agd,Tg];exact r.len,λ i d h=>?_,λ i d h=>?_,λ i j d e a h1 h2 h3 h4=>?_,λ b o h=>?_,λ a h=>?_⟩
 ·obtain⟨hi,h⟩:=Hl (by intro z;cases z) h
  obtain⟨v,e,p⟩:=r.fz i d h
  exact⟨v,by rw [hσ i hi];exact e,(p.fresh n).mono (Av n) sub⟩
 ·obtain⟨hi,h⟩:=Hl (by intro z;cases z) h
  obtain⟨a,e1,e2,e3⟩:=r.ow i d h
  have ha:a≠L:=λ z=>by subst z;obtain⟨o,q,_⟩:=e2.there;rw [n] at q;cases q
  refine⟨a,by rw [hσ i hi];exact e1,?_,?_⟩
  ·have h4:Own K H (λ b=>Ow G.pr E σ b\/b=L) d a:=by
    cases d with
    | lst ds=>obtain⟨vs,e,q⟩:=e2;exact⟨vs,e,q.fresh n⟩
    | dic ds=>obtain⟨vs,e,q⟩:=e2;exact⟨vs,e,q.fresh n⟩
    | _=>exact e2
   exact h4.mono (Av n) sub
  ·have:Qs E σ a:=⟨i,d,h,e1⟩
   unfold Fc.in Fc.lock
   simp [ha,this]
 ·obtain⟨hi,h1⟩:=Hl (by intro z;cases z) h1
  obtain⟨hj,h2⟩:=Hl (by intro z;cases z) h2
  rw [hσ i hi] at h3
  rw [hσ j hj] at h4
  exact r.ne i j d e a h1 h2 h3 h4
 ·unfold Fc.in at h
  dsimp only at h
  split at h
  ·rename_i e;subst e;rw [Aj];exact h
  ·rename_i e;rw [Al e];exact r.lock.base _ _ h
 ·rcases h with h|h
  ·obtain⟨o,q,nt⟩:=r.lock.prt a h
   refine⟨o,?_,nt⟩
   exact (Aqz n).h0 _ _ q
  ·subst h
   exact⟨.lst [],by unfold Fc.in;simp,True.intro⟩
theorem Rel.bump {E0:Ev}{σ0:St}{H0:Hp}{L:Addr}{vs ws:List V}(r:Rel K (G.in E0 σ0 H0 L vs) E σ H):Rel K (G.in E0 σ0 H0 L ws) E σ (upd H L (.lst ws)):=by
 have hL:Ow (G.in E0 σ0 H0 L vs).pr E σ L:=.inl (.inr rfl)
 refine⟨r.len,λ i d h=>?_,λ i d h=>?_,r.ne,λ b o h=>?_,λ a h=>?_⟩
 ·obtain⟨v,e,p⟩:=r.fz i d h
  exact⟨v,e,p.write hL⟩
 ·obtain⟨a,e1,e2,e3⟩:=r.ow i d h
  have ha:a≠L:=λ z=>by subst z;unfold Fc.in at e3;simp at e3
  refine⟨a,e1,?_,?_⟩
  ·cases d with
   | lst ds=>obtain⟨vs,e,q⟩:=e2;exact⟨vs,by rw [Al ha];exact e,q.write hL⟩
   | dic ds=>obtain⟨vs,e,q⟩:=e2;exact⟨vs,by rw [Al ha];exact e,q.write hL⟩
   | _=>exact e2
  ·unfold Fc.in at e3 ⊢
   simp only [ha,if_false] at e3 ⊢
   exact e3
 ·by_cases e:b=L
  ·subst e
   unfold Fc.in at h
   simp at h
   rw [Aj,h]
  ·rw [Al e]
   refine r.base _ _ ?_
   unfold Fc.in at h ⊢
   simp only [e,if_false] at h ⊢
   exact h
 ·obtain⟨o,q,nt⟩:=r.prt a h
  by_cases e:a=L
  ·subst e;exact⟨.lst ws,by unfold Fc.in;simp,True.intro⟩
  ·refine⟨o,?_,nt⟩
   unfold Fc.in at q ⊢
   simp only [e,if_false] at q ⊢
   exact q
theorem Rel.un {i:Nat}(r:Rel K G E σ H):Rel K G (E.set i .un) σ H:=by
 have sub:∀ b,Ow G.pr (E.set i .un) σ b->Ow G.pr E σ b:=λ b h=>by
  rcases h with h|⟨j,d,h1,h2⟩
  ·exact .inl h
  ·rcases get_set h1 with ⟨_,z⟩|⟨_,h1⟩
   ·cases z
   ·exact .inr ⟨j,d,h1,h2⟩
 refine⟨by simp [r.len],λ j d h=>?_,λ j d h=>?_,λ j k d e a h1 h2 h3 h4=>?_,r.base,r.prt⟩
 ·rcases get_set h with ⟨_,z⟩|⟨_,h⟩
  ·cases z
  ·obtain⟨v,e,p⟩:=r.fz j d h;exact⟨v,e,p.mono (Same.refl _) sub⟩
 ·rcases get_set h with ⟨_,z⟩|⟨_,h⟩
  ·cases z
  ·obtain⟨a,e1,e2,e3⟩:=r.ow j d h;exact⟨a,e1,e2.mono (Same.refl _) sub,e3⟩
 ·rcases get_set h1 with ⟨_,z⟩|⟨_,h1⟩
  ·cases z
  rcases get_set h2 with ⟨_,z⟩|⟨_,h2⟩
  ·cases z
  exact r.ne j k d e a h1 h2 h3 h4
theorem Rel.clr:∀ {ts:List Nat}{E:Ev},Rel K G E σ H->Rel K G (clr ts E) σ H
 | [],E,r=>r
 | i :: ts,E,r=>by unfold M.clr;exact Rel.clr r.un
end
section
variable {X:Cx}{G:Fc}{elt iter tg:Expr}{ifs:List Expr}{scope:Scope}{pos:Pos}{ts:List Nat}{set:D->Ev->Option Ev}{mi:Ev->R (List D)}{mt:Ev->R Bool}{me:EV}
structure CompOk (X:Cx) (xc:Nat->Prop) (elt tg:Expr) (ifs:List Expr) (scope:Scope) (ts:List Nat) (set:D->Ev->Option Ev) (mt:Ev->R Bool) (me:EV):Prop where
 S:CScope X scope
 loc:∀ (i:Nat) x,X.N[i]?=some x->scope.names.lookup x=some .local->i∈ts
 hset:∀ d E E',set d E=some E'->clr ts E'=clr ts E
 hg:∀ s3 H3 fp C,SG (cxc X scope s3 H3 fp C) tg ts set
 hc:∀ s3 H3 fp C G',G'.xc=xc->SC (cxc X scope s3 H3 fp C) G' ifs mt
 he:∀ s3 H3 fp C G',G'.xc=xc->SF (cxc X scope s3 H3 fp C) G' elt me
structure CompI (X:Cx) (G:Fc) (scope:Scope) (ts:List Nat) (set:D->Ev->Option Ev) (mt:Ev->R Bool) (me:EV) (E:Ev) (σ:St) (H2 H3:Hp) (s3:Shared) (L C:Addr) (fp:List Addr) (tn:Nat->Heap->Prop) (ds all:List D)
  (n:Nat) (s':Shared) (i:Nat) (σi:St) (Hi:Hp) (vs:List V) (ys rest:List D):Prop where
 hn:n=ds.length-i
 hi:i<=ds.length
 Ii:Inv (cxc X scope s3 H3 fp C) [] σi Hi s'
 sti:tn i s'.heap
 fri:∀ b∈fp,Hi b=none
 hL:Hi L=some (.lst vs)
 rps:Rps X.K Hi (Ow (G.in E σ H2 L vs).pr (clr ts E) σi) ys vs
 ri:Rel X.K (G.in E σ H2 L vs) (clr ts E) σi Hi
 hσ:∀ j,j∉ts->σi[j]?=σ[j]?
 sm:Same H2 Hi
 hle:ys.length<=i
 hc:K5 set mt me (clr ts E) (ds.drop i)=.ok rest
 hall:all=ys++rest
theorem Aez {σ:St}{H2:Hp}{E:Ev}{ds all:List D}{it L C:Addr}{fp:List Addr}{tn:Nat->Heap->Prop}{J:It}{RR:Result->Shared->Prop}{s3:Shared}{H3:Hp}(calm:X.calm=true) (hx:∀ c,¬ G.xc c) (O:CompOk X G.xc elt tg ifs scope ts set mt me)
  (T:Turn X.prog X.w X.K tg J fp it tn) (itB:∀ (vs:List V) (E':Ev) (σ':St) (H':Hp),Rel X.K (G.in E σ H2 L vs) E' σ' H'->J.stop ds.length H'/\∀ (i:Nat) (d:D),ds[i]?=some d->J.go i H'/\∀ x H'',J.yld i H' x H''->Same H' H''/\Rp X.K H'' (Ow (G.in E σ H2 L vs).pr E' σ') d x)
  (hlen:ds.length<=1000000) (nL:H2 L=none)
  (fin:∀ (σe:St) (He:Hp) (vs:List V) (s1:Shared),Inv (cxc X scope s3 H3 fp C) [] σe He s1->He L=some (.lst vs)->Rps X.K He (Ow (G.in E σ H2 L vs).pr (clr ts E) σe) all vs->(∀ j,j∉ts->σe[j]?=σ[j]?)->Same H2 He->RR (.ok .next) s1)
  (s₀:Shared) (n:Nat) (i:Nat) (σi:St) (Hi:Hp) (vs:List V) (ys rest:List D) (hn:n=ds.length-i) (hi:i<=ds.length) (Ii:Inv (cxc X scope s3 H3 fp C) [] σi Hi s₀) (sti:tn i s₀.heap) (fri:∀ b∈fp,Hi b=none) (hL:Hi L=some (.lst vs))
  (rps:Rps X.K Hi (Ow (G.in E σ H2 L vs).pr (clr ts E) σi) ys vs) (ri:Rel X.K (G.in E σ H2 L vs) (clr ts E) σi Hi) (hσ:∀ j,j∉ts->σi[j]?=σ[j]?) (sm:Same H2 Hi) (hle:ys.length<=i) (hc:K5 set mt me (clr ts E) (ds.drop i)=.ok rest) (hall:all=ys++rest) :
  codeAny (model X.prog X.w) X.A (.compLoop (.ListComp elt [⟨tg,iter,ifs,0⟩] scope pos) 0 (.ref it) (.ref L) (cxc X scope s3 H3 fp C).env) RR s₀:=by
 refine Yj (λ n s'=>∃ (i:Nat) (σi:St) (Hi:Hp) (vs:List V) (ys rest:List D),CompI X G scope ts set mt me E σ H2 H3 s3 L C fp tn ds all n s' i σi Hi vs ys rest) ?_ n ⟨i,σi,Hi,vs,ys,rest,hn,hi,Ii,sti,fri,hL,rps,ri,hσ,sm,hle,hc,hall⟩
 clear hn hi Ii sti fri hL rps ri hσ sm hle hc hall
 rintro n s' ⟨i,σi,Hi,vs,ys,rest,rfl,hi,Ii,sti,fri,hL,rps,ri,hσ,sm,hle,hc,hall⟩
 obtain⟨stop,go⟩:=itB vs (clr ts E) σi Hi ri
 have okX:=Ii.ok
 have fpX:∀ {H':Hp},(∀ b∈fp,H' b=none)->∀ b∈fp,Ab1 (cxc X scope s3 H3 fp C) [] H' b:=λ hn b hb =>
  ⟨hn b hb,(okX.exf b hb).1,okX.exfs b hb,.inl hb,λ x c h=>(okX.exf b hb).2 x c h,λ p hp=>absurd hp (by simp [cxc])⟩
 by_cases hlt:i<ds.length
 ·obtain⟨go1,yl⟩:=go i ds[i] (by simp [hlt])
  rw [List.drop_eq_getElem_cons hlt] at hc
  unfold K5 at hc
  refine wpAny_mono (T.item (cxc X scope s3 H3 fp C) rfl rfl rfl calm i [] s' σi Hi (λ _ _=>False) Ii (fpX fri) sti go1) (?_) λ _ _ z=>z
  rintro r s1 ⟨u,hr,h1⟩
  subst hr
  refine wpAny_mono h1 (?_) λ _ _ z=>z
  rintro _ s2 ⟨x,Hy,Iy,rx,y1,sty,fry⟩
  obtain⟨sy,px⟩:=yl x Hy y1
  cases hse:set ds[i] (clr ts E) with
  | none=>rw [hse] at hc;cases hc
  | some E1 =>
  rw [hse] at hc
  dsimp only at hc
  have Iy':=Iy.pinned (fpX fry) (T.obj _ _ sty)
  obtain⟨g,hg,hset⟩:=O.hg s3 H3 fp C
  have ry:=ri.same sy
  -- the target
  refine wpAny_mono (hg _ s2 σi Hy x u _ Iy' rx (hset (G.in E σ H2 L vs) (clr ts E) E1 σi Hy ds[i] x (λ σ' H'=>H'=Hy/\(∀ j,j∉ts->σ'[j]?=σi[j]?)/\Rel X.K (G.in E σ H2 L vs) E1 σ' Hy) ry px hse λ σ' h1 h2=>⟨rfl,h1,h2⟩)) (?_) λ _ _ z=>z
  rintro _ s4 ⟨σ4,H4,I4,e4,hσ4,r4⟩
  have e4':=e4.symm
  subst e4'
  have hσ4':∀ j,j∉ts->σ4[j]?=σ[j]?:=λ j hj=>(hσ4 j hj).trans (hσ j hj)
  have eclr:clr ts E1=clr ts E:=by
   have:=O.hset _ _ _ hse
   rw [this]
   apply List.ext_getElem?
   intro j
   rw [O6,O6,Agd]
   by_cases hj:j∈ts
   ·simp [hj]
   ·simp [hj]
  -- the iterator behind a state of the block
  have again:∀ {s9:Shared} {σ9:St} {H9:Hp},Inv (cxc X scope s3 H3 fp C) ([]++Wz fp s2.heap) σ9 H9 s9->Inv (cxc X scope s3 H3 fp C) [] σ9 H9 s9/\tn (i+1) s9.heap/\∀ b∈fp,H9 b=none:=λ {s9 σ9 H9} I9=>by
   refine⟨I9.unpinned,T.keep _ _ _ sty λ b hb o e=>(I9.pin (b,o) (List.mem_append_right _ (List.mem_append_right _ (Kc hb e)))).1,λ b hb=>?_⟩
   obtain⟨o,e,d⟩:=T.obj _ _ sty b hb
   exact (I9.pin (b,o) (List.mem_append_right _ (List.mem_append_right _ (Kc hb e)))).2.1
  have smy:Same H2 Hy:=sm.trans sy
  have hLy:Hy L=some (.lst vs):=sy _ _ hL
  -- the tests
  cases hmt:mt E1 with
  | er c=>rw [hmt] at hc;cases hc
  | no=>rw [hmt] at hc;cases hc
  | ok k =>
  rw [hmt] at hc
  simp only [R.ok_bind] at hc
  refine wpAny_mono (O.hc s3 H3 fp C (G.in E σ H2 L vs) rfl _ s4 σ4 Hy (λ b H'=>b=k/\Same Hy H') I4 ⟨E1,r4,by rw [hmt];exact λ H' s=>⟨rfl,s⟩⟩) (λ ok s5 ⟨H5,I5,e5,s5'⟩=>?_) λ _ _ z=>z
  subst e5
  have r5:=r4.same s5'
  cases ok with
  | false =>
   rw [if_neg Bool.false_ne_true] at hc ⊢
   obtain⟨J5,t5,n5⟩:=again I5
   refine⟨ds.length-(i+1),by omega,i+1,σ4,H5,vs,ys,rest,rfl,hlt,J5,t5,n5,s5' _ _ hLy,?_,?_,hσ4',smy.trans s5',by omega,hc,hall⟩
   ·refine rps.mono (sy.trans s5') λ b z=>?_
    rcases z with z|⟨j,d,z1,z2⟩
    ·exact .inl z
    ·obtain⟨hj,z3⟩:=Hl (by intro q;cases q) z1
     exact .inr ⟨j,d,z1,by rw [<-hσ4 j hj];exact z2⟩
   ·rw [<-eclr];exact r5.clr
  | true =>
   rw [if_pos rfl] at hc ⊢
   cases hme:me E1 with
   | er c=>rw [hme] at hc;cases hc
   | no=>rw [hme] at hc;cases hc
   | ok y =>
   rw [hme] at hc
   simp only [R.ok_bind] at hc
   cases hrest:K5 set mt me (clr ts E) (ds.drop (i+1)) with
   | er c=>rw [hrest] at hc;cases hc
   | no=>rw [hrest] at hc;cases hc
   | ok zs =>
   rw [hrest] at hc
   simp only [R.ok_bind] at hc
   cases hc
   refine wpAny_mono (O.he s3 H3 fp C (G.in E σ H2 L vs) rfl _ s5 σ4 H5 (λ v H'=>Same H5 H'/\Rp X.K H' (Ow (G.in E σ H2 L vs).pr E1 σ4) y v) I5 ⟨E1,r5,by rw [hme];exact λ v H' s p=>⟨s,p⟩⟩) (λ z s6 ⟨v6,H6,I6,rv6,s6',p6⟩=>?_) λ _ _ z=>z
   have r6:=r5.same s6'
   have hL6:H6 L=some (.lst vs):=s6' _ _ (s5' _ _ hLy)
   have lv:vs.length<sizeLine:=by rw [rps.length,sizeLine_eq];omega
   refine wpAny_mono (Ph (X:=cxc X scope s3 H3 fp C) _ s6 σ4 H6 (.ref L) [v6] (.ref L) [z] (λ _ H'=>H'=upd H6 L (.lst (vs++[v6]))) I6 rfl (.cons rv6 .nil) ⟨L,vs,v6,rfl,rfl,hL6,lv,rfl⟩) (?_) λ _ _ z=>z
   rintro _ s7 ⟨_,H7,I7,_,e7⟩
   subst e7
   obtain⟨J7,t7,n7⟩:=again I7
   have hLo:Ow (G.in E σ H2 L vs).pr E1 σ4 L:=.inl (.inr rfl)
   have owsub:∀ b,Ow (G.in E σ H2 L (vs++[v6])).pr (clr ts E) σ4 b->Ow (G.in E σ H2 L vs).pr E1 σ4 b:=λ b z=>by
    rw [<-eclr] at z
    rcases z with z|⟨j,d,z1,z2⟩
    ·exact .inl z
    ·exact .inr ⟨j,d,(Hl (by intro q;cases q) z1).2,z2⟩
   refine⟨ds.length-(i+1),by omega,i+1,σ4,_,vs++[v6],ys++[y],zs,rfl,hlt,J7,t7,n7,Aj,?_,?_,hσ4',?_,by simp;omega,hrest,by simp [hall]⟩
   ·refine Rps.append ?_ (Rps.cons ((p6.write hLo).mono (Same.refl _) owsub) Rps.nil)
    have q1:Rps X.K H6 (Ow (G.in E σ H2 L vs).pr (clr ts E) σ4) ys vs:=rps.mono (sy.trans (s5'.trans s6')) λ b z=>by
     rcases z with z|⟨j,d,z1,z2⟩
     ·exact .inl z
     ·obtain⟨hj,z3⟩:=Hl (by intro q;cases q) z1
      exact .inr ⟨j,d,z1,by rw [<-hσ4 j hj];exact z2⟩
    exact q1.write (.inl (.inr rfl))
   ·have:=r6.clr (ts:=ts)
    rw [eclr] at this
    exact this.bump
   ·intro b o hb
    have hb':b≠L:=λ q=>by subst q;rw [nL] at hb;cases hb
    rw [Al hb']
    exact s6' _ _ (s5' _ _ (smy _ _ hb))
 ·have e:i=ds.length:=by omega
  subst e
  rw [List.drop_length] at hc
  unfold K5 at hc
  cases hc
  rw [List.append_nil] at hall
  subst hall
  refine wpAny_mono (T.done (cxc X scope s3 H3 fp C) rfl rfl rfl calm ds.length [] s' σi Hi (λ _ _=>False) Ii (fpX fri) sti stop) (?_) λ _ _ z=>z
  rintro r s1 ⟨hr,I1⟩
  subst hr
  exact fin σi Hi vs s1 I1 hL rps hσ sm
theorem Agk {pins:List (Addr × Obj)}{σ:St}{H2:Hp}{s2:Shared}{E:Ev}{ds all:List D}{it:Addr}{fp:List Addr}{tn:Nat->Heap->Prop}{J:It}{Rr:Value->Addr->Result->Shared->Prop}(calm:X.calm=true) (hx:∀ c,¬ G.xc c) (O:CompOk X G.xc elt tg ifs scope ts set mt me)
  (I:Inv X pins σ H2 s2) (T:Turn X.prog X.w X.K tg J fp it tn) (st:tn 0 s2.heap) (f:∀ b∈fp,Ab1 X pins H2 b) (r:Rel X.K G E σ H2) (itok:Ana X.K (G.lock E σ H2) J ds) (hlen:ds.length<=1000000) (no:Anh ts E=true) (hall:K5 set mt me (clr ts E) ds=.ok all)
  (fin:∀ (L C:Addr) (He:Hp) (s':Shared) (m:Str->Option Value),H2 L=none->C≠X.env.locals->s'.heap.Ns C m->He C=none->(∀ x c,X.env.cells.lookup x=some c->c≠C)->C∉X.fs->X.s₀.heap.objs.size<=C->(∀ p∈X.pn++pins,p.1≠C)->(∀ h',(∀ b o,b≠C->s'.heap.get? b=some o->h'.get? b=some o)->Inv X pins σ He { s' with heap:=h' })->Same H2 He->Own X.K He (λ b=>Ow G.pr E σ b\/b=L) (.lst all) L->Rr (.ref L) C (.ok .next) s') :
  wpAny (model X.prog X.w) X.A (newList []) (λ acc s₃=>wpAny (model X.prog X.w) X.A (newFunctionEnv scope X.env.globals (Agf scope.names X.env []) [] X.env.qual none .none (some X.env)) (λ cenv s₄ =>
   codeAny (model X.prog X.w) X.A (.compStart (.ListComp elt [⟨tg,iter,ifs,0⟩] scope pos) 0 (.ref it) acc { cenv with scope:=relabel scope X.env }) (Rr acc cenv.locals) s₄) X.xe s₃) X.xe s2:=by
 refine wpAny_newObj_type (wpAny_newFunctionEnv O.S.nocell (by intro y hy;simp at hy) (λ h₁ hns₁ hsb₁=>?_) O.S.kind)
 dsimp only at hns₁ hsb₁ ⊢
 generalize hp3:s2.heap.push { cls:=.type "list",data:=.seq #[] }=h3 at hns₁ hsb₁ ⊢
 have hC:h3.objs.size=s2.heap.objs.size+1:=by rw [<-hp3,Heap.size_push]
 have k23:∀ b o,s2.heap.get? b=some o->h3.get? b=some o:=λ b o e=>by rw [<-hp3];exact Heap.get?_push_of_some _ e
 have nL:H2 s2.heap.objs.size=none:=I.hok.fresh (Nat.le_refl _)
 have I3:Inv X pins σ (upd H2 s2.heap.objs.size (.lst [])) { s2 with heap:=h3,toks:=s2.toks }:=by
  rw [<-hp3]
  exact I.laid (a:=s2.heap.objs.size) (o:=.lst []) (t':=s2.toks) (λ _ _ q=>Heap.get?_push_of_some _ q) (Nat.le_refl _) ⟨Nat.zero_le _,[],0,.nil,Heap.get?_push_size _ rfl⟩
 have lt2:∀ b∈fp,b<s2.heap.objs.size:=λ b hb=>by obtain⟨o,e,_⟩:=T.obj 0 _ st b hb;exact Heap.lt_size e
 have lt3:∀ b∈fp,b<h3.objs.size:=λ b hb=>by rw [hC];exact Nat.lt_succ_of_lt (lt2 b hb)
 have f3:∀ b∈fp,Ab1 X pins (upd H2 s2.heap.objs.size (.lst [])) b:=λ b hb=>⟨by rw [Al (Nat.ne_of_lt (lt2 b hb))];exact (f b hb).1,(f b hb).2⟩
 have k34:∀ b o,h3.get? b=some o->h₁.get? b=some o:=λ b o e=>hsb₁.extBut b o (Nat.ne_of_lt (Heap.lt_size e)) (Heap.get?_push_of_some _ e)
 have IB:=Agb O.S I3 f3 (λ b hb=>lt3 b hb) O.loc (h':=h₁) (by simpa using hns₁) k34 (tk:=s2.toks+([]:List (Str × Value)).length)
 have st4:tn 0 h₁:=T.keep _ _ _ st λ b hb o e=>k34 b o (k23 b o e)
 have rB:=r.block (ts:=ts) nL
 have itB:∀ (vs:List V) (E':Ev) (σ':St) (H':Hp),Rel X.K (G.in E σ H2 s2.heap.objs.size vs) E' σ' H'->_:=λ vs E' σ' H' r'=>itok _ E' σ' H' (Aqz nL) r'
 have loop:=Aez (X:=X) (pos:=pos) (iter:=iter) (RR:=Rr (.ref s2.heap.objs.size) h3.objs.size) (s3:={ s2 with heap:=h3,toks:=s2.toks }) (H3:=upd H2 s2.heap.objs.size (.lst [])) (C:=h3.objs.size) calm hx O T itB hlen nL (λ σe He vs s1 Ie hL rps hσ sm=>by
   obtain⟨m,hns,_⟩:=Ie.loc
   have hns:s1.heap.Ns h3.objs.size m:=hns
   have hCn:He h3.objs.size=none:=Ie.free
   refine fin s2.heap.objs.size h3.objs.size He s1 m nL (Nat.ne_of_gt I3.lt) hns hCn (λ x c e z=>?_) (I3.nofs (Nat.le_refl _)) I3.sz (λ p hp z=>?_) (λ h' k=>?_) sm ⟨vs,hL,rps.mono (Same.refl _) λ b z=>?_⟩
   ·obtain⟨v,q⟩:=I3.cell x c e
    have:=q.lt
    rw [z] at this
    exact absurd this (Nat.lt_irrefl _)
   ·have:=Heap.lt_size (I3.pin p hp).1
    rw [z] at this
    exact absurd this (Nat.lt_irrefl _)
   ·have u:Un (frs X.stack) fp (upd H2 s2.heap.objs.size (.lst [])) He h3 h':=Un.post (C:=h3.objs.size) Ie.base k λ b o e=>Nat.ne_of_lt (Heap.lt_size e)
    refine I3.call' (s':={ s1 with heap:=h' }) Ie.os u (HOk.post Ie.hok hCn k) Ie.bare λ b hb=>?_
    obtain⟨_,q1,q2,q3,q4,q5⟩:=f3 b hb
    exact⟨q3,q1,q4,q5⟩
   ·rcases z with z|z
    ·rcases Al8 (pr:=G.pr) no hσ z with z|z
     ·exact .inl (.inl z)
     ·exact .inr z
    ·exact .inl (.inr z))
  { s2 with heap:=h₁,toks:=s2.toks+([]:List (Str × Value)).length } ds.length 0 (Ad1 ts σ) _ [] [] all (by simp) (Nat.zero_le _) IB st4 (λ b hb=>(f3 b hb).1) Aj Rps.nil rB (λ j hj=>by rw [Nz,if_neg hj]) (Av nL) (Nat.le_refl _) (by simpa using hall) rfl
 exact codeAny_compStart_list loop (T.self _ 0 _ _ _ st4 loop)
theorem Dj (gd:Gd X) (hx:∀ c,¬ G.xc c) (hi:SI X G tg iter mi) (O:CompOk X G.xc elt tg ifs scope ts set mt me) (hs:∀ x,foldedSetIterable iter X.env x=pure x:=by intro _;rfl):SN X G (.ListComp elt [⟨tg,iter,ifs,0⟩] scope pos) (Hh ts set mi mt me):=by
 rintro pins s σ H Q I ⟨E,hr,f⟩
 unfold Hh at f
 split at f
 ·rename_i no
  rw [eval_ListComp]
  have hclos:closureFor scope X.env=pure (Agf scope.names X.env []):=Aaz λ p hp hf=>I.ok.has p.1 (O.S.free p hp hf)
  refine wpAny_comprehension_free (use:=none) rfl hs hclos O.S.kind (λ y hy hl=>by rw [<-hl];exact O.S.names y hy) ?_
  refine thn (hi pins s σ H (λ J H1=>∃ ds all,Same H H1/\Ana X.K (G.lock E σ H1) J ds/\ds.length<=1000000/\K5 set mt me (clr ts E) ds=.ok all/\∀ a H',Same H H'->H a=none->Own X.K H' (λ b=>Ow G.pr E σ b\/b=a) (.lst all) a->Q (.ref a) H') I ⟨E,hr,(Fin.bind f).mono λ ds p J H1 s1 it=>?_⟩) λ v s1 h1=>thn h1 λ itv s2 zz=>?_
  ·split at p
   ·rename_i hl
    cases hc:K5 set mt me (clr ts E) ds with
    | no=>rw [hc] at p;exact p.elim
    | er c=>rw [hc] at p;exact absurd p (hx c)
    | ok all=>rw [hc] at p;exact⟨ds,all,s1,it,hl,hc,p⟩
   ·exact p.elim
  ·obtain⟨it,fp,tn,J,H2,e,I2,T,st,fo,ds,all,s12,ito,hl,hc,q⟩:=zz
   subst e
   refine Agk (Rr:=λ acc C=>compPost (model X.prog X.w) X.A X.xe none (EP X pins σ Q) acc C) gd.calm hx O I2 T st fo (hr.same s12) ito hl no hc λ L C He s' m nL _ ns nC _ _ _ _ inv sm own=>?_
   refine⟨m,ns,λ h' sb=>⟨.ref L,He,inv h' λ b o hb e=>sb.extBut b o hb e,rfl,q L He (s12.trans sm) ?_ own⟩⟩
   cases z:H L with
   | none=>rfl
   | some o=>rw [s12 _ _ z] at nL;cases nL
 ·exact f.elim
end
theorem Tw {X:Cx}{pins:List (Addr × Obj)}{σ:St}{H:Hp}{s:Shared}{h':Heap}{t':Nat}{ch:List Addr}{T:Addr}{o:HO}(I:Inv X pins σ H s) (hch:∀ b∈ch,Ab1 X pins H b)
  (k:∀ b o,b∉ch->s.heap.get? b=some o->h'.get? b=some o) (hT:s.heap.objs.size<=T) (new:Ea X.prog X.w (upd H T o) h' T o):Inv X pins σ (upd H T o) { s with heap:=h',toks:=t' }:=by
 have hnT:H T=none:=I.hok.fresh hT
 have nT:∀ b ob,s.heap.get? b=some ob->b≠T:=λ b ob e=>Nat.ne_of_lt (Nat.lt_of_lt_of_le (Heap.lt_size e) hT)
 have nit:∀ b u,H b=some u->b∉ch:=λ b u e z=>by rw [(hch b z).1] at e;cases e
 refine I.step (g':=s.gens) (d':=s.drawn) (ch:=ch) (λ b hb=>?_) (λ b o _ _ hc e _=>k b o hc e) (λ b o _ _ hc e _=>⟨o.slots,k b o hc e⟩) (λ b ob _ e n=>by rw [Al (nT b ob e)];exact n)
  (λ b o hc e=>by
   exact⟨o,k b o hc e⟩) (λ b xs e=>by rw [Al (Bd e hnT)];exact e) (λ b u xs e=>by rw [Al (Bd e hnT)];exact e) (λ b ps e=>⟨#[],by rw [Al (Bd e hnT),e];simp⟩) (λ m hm=>?_) (λ b u e=>?_) I.bare
 ·obtain⟨_,q1,q2,q3,q4,q5⟩:=hch b hb
  exact⟨q3,q1,q4,q5⟩
 ·obtain⟨ob,es,ep,ho,r⟩:=hm
  exact⟨ob,es,ep,k _ ob (λ z=>(hch _ z).2.1 rfl) ho,r⟩
 ·by_cases hb:b=T
  ·subst hb;rw [Aj] at e;cases e;exact new
  ·rw [Al hb] at e
   refine (I.hok b u e).stay (λ c v hc q=>k c v ?_ q) (λ c q=>by rw [Al (Bd q hnT)];exact q) λ c xs q=>by rw [Al (Bd q hnT)];exact q
   rcases hc with z|z
   ·rw [z];exact nit b u e
   ·exact nit c _ z
noncomputable def Itz (K:PySem.W.Frag) (a b:Addr):It :=
 ⟨λ i H=>∃ xs ys x y,SqL K H a xs/\SqL K H b ys/\xs[i]?=some x/\ys[i]?=some y,
  λ i H v H'=>∃ T x y,v=.ref T/\H T=none/\H'=upd H T (.tup [x,y])/\(∀ xs,SqL K H a xs->xs[i]?=some x)/\∀ ys,SqL K H b ys->ys[i]?=some y,
  λ i H=>∃ xs ys,SqL K H a xs/\SqL K H b ys/\i=min xs.length ys.length⟩
theorem Ahh {P:Program}{w:World}{K:PySem.W.Frag}{elts:List Expr}{k:Nat}{pos:Pos}(a b z TI TO i1 i2:Addr) (D:ZipApart z TI TO i1 i2 a b) :
  Turn P w K (.Tuple elts k pos) (Itz K a b) [z,TI,TO,i1,i2] z (λ i h=>IsZip h z TI TO .none/\IsPair h TI (.ref i1) (.ref i2)/\(∃ u v,IsPair h TO u v)/\h.IsListIter i1 a i/\h.IsListIter i2 b i) where
 mem:=by simp
 obj:=λ i h st c hc=>by
  obtain⟨h1,h2,⟨u,v,h3⟩,⟨o4,e4,c4,d4⟩,⟨o5,e5,c5,d5⟩⟩:=st
  simp only [List.mem_cons,List.not_mem_nil,or_false] at hc
  rcases hc with rfl|rfl|rfl|rfl|rfl
  ·exact⟨_,h1,λ v z=>nomatch z⟩
  ·exact⟨_,h2,λ v z=>nomatch z⟩
  ·exact⟨_,h3,λ v z=>nomatch z⟩
  ·exact⟨_,e4,λ v z=>by rw [d4] at z;cases z⟩
  ·exact⟨_,e5,λ v z=>by rw [d5] at z;cases z⟩
 keep:=λ i h h' st k=>by
  obtain⟨h1,h2,⟨u,v,h3⟩,h4,h5⟩:=st
  exact⟨k z (by simp) _ h1,k TI (by simp) _ h2,⟨u,v,k TO (by simp) _ h3⟩,h4.at λ o e=>k i1 (by simp) o e,h5.at λ o e=>k i2 (by simp) o e⟩
 item:=by
  intro X hP hw hK hc i pins s σ H E I hf st hg
  subst hP hw hK
  obtain⟨xs,ys,x,y,hq1,hq2,hx,hy⟩:=hg
  obtain⟨its1,rv1,p1,hz1⟩:=I.list hq1
  obtain⟨its2,rv2,p2,hz2⟩:=I.list hq2
  obtain⟨u1,hu1,ru1⟩:=rv1.get hx
  obtain⟨u2,hu2,ru2⟩:=rv2.get hy
  obtain⟨h1,h2,h3,h4,h5⟩:=st
  have W:=WalksT.zip2 (prog:=X.prog) (w:=X.w) (A:=X.A) (I.ok.hd hc) z TI TO i1 i2 a b D its1.toArray its2.toArray
  have l1:i<its1.length:=(List.getElem?_eq_some_iff.mp hu1).1
  have l2:i<its2.length:=(List.getElem?_eq_some_iff.mp hu2).1
  refine W.item i s _ E (by simp;omega) ⟨h1,h2,h3,h4,h5,p1.isList,p2.isList⟩ λ T vals h' tk hv hT hTu hM hk=>?_
  obtain⟨v1,v2,e1,e2,rfl⟩:=hv
  have e1':v1=u1:=by
   have:its1[i]?=some v1:=by simpa using e1
   rw [hu1] at this;exact (Option.some.inj this).symm
  have e2':v2=u2:=by
   have:its2[i]?=some v2:=by simpa using e2
   rw [hu2] at this;exact (Option.some.inj this).symm
  subst e1' e2'
  refine⟨.ref T,rfl,?_⟩
  have hap:=W.apart i T h' hM
  refine W.go elts k pos i T { s with heap:=h',toks:=tk } _ E hM λ h'' hst'' hk''=>?_
  have nT:H T=none:=I.hok.fresh hT
  obtain⟨oT,eT,cT,nn,dT⟩:=hTu
  have eT':=hk'' T oT hap eT
  have sub:∀ c,c∉[z,TI,TO,i1,i2]->c∉[z,TO,i1,i2]:=λ c hc hc'=>hc (by
   simp only [List.mem_cons,List.not_mem_nil,or_false] at hc' ⊢
   rcases hc' with h|h|h|h
   ·exact .inl h
   ·exact .inr (.inr (.inl h))
   ·exact .inr (.inr (.inr (.inl h)))
   ·exact .inr (.inr (.inr (.inr h))))
  have I':Inv X pins σ (upd H T (.tup [x,y])) { s with heap:=h'',toks:=tk }:=Tw I hf (λ c o hc e=>hk'' c o (sub c hc) (hk c o (sub c hc) e)) hT
   ⟨by rw [sizeLine_eq];simp,[v1,v2],.cons ru1 (.cons ru2 .nil),oT,eT',cT,nn,dT⟩
  obtain⟨g1,g2,g3,g4,g5,_,_⟩:=hst''
  refine⟨.ref T,_,I',rfl,⟨T,x,y,rfl,nT,rfl,λ zs hz=>by rw [I.list_inj hz hq1];exact hx,λ zs hz=>by rw [I.list_inj hz hq2];exact hy⟩,⟨g1,g2,g3,g4,g5⟩,λ c hc=>?_⟩
  have hlt:c<s.heap.objs.size:=by
   obtain⟨u,v,h3⟩:=h3
   obtain⟨o4,e4,_⟩:=h4
   obtain⟨o5,e5,_⟩:=h5
   simp only [List.mem_cons,List.not_mem_nil,or_false] at hc
   rcases hc with rfl|rfl|rfl|rfl|rfl
   ·exact Heap.lt_size h1
   ·exact Heap.lt_size h2
   ·exact Heap.lt_size h3
   ·exact Heap.lt_size e4
   ·exact Heap.lt_size e5
  rw [Al (Nat.ne_of_lt (Nat.lt_of_lt_of_le hlt hT))]
  exact (hf c hc).1
 done:=by
  intro X hP hw hK hc i pins s σ H E I hf st hg
  subst hP hw hK
  obtain⟨xs,ys,hq1,hq2,hi⟩:=hg
  obtain⟨its1,rv1,p1,hz1⟩:=I.list hq1
  obtain⟨its2,rv2,p2,hz2⟩:=I.list hq2
  obtain⟨h1,h2,h3,h4,h5⟩:=st
  have W:=WalksT.zip2 (prog:=X.prog) (w:=X.w) (A:=X.A) (I.ok.hd hc) z TI TO i1 i2 a b D its1.toArray its2.toArray
  have en:min its1.toArray.size its2.toArray.size=i:=by
   rw [hi,List.size_toArray,List.size_toArray,rv1.length,rv2.length]
  refine W.done s _ E (by rw [en];exact⟨h1,h2,h3,h4,h5,p1.isList,p2.isList⟩) λ h' tk hk=>⟨rfl,?_⟩
  have nit:∀ b u,H b=some u->b∉[z,TI,TO,i1,i2]:=λ b u e q=>by rw [(hf b q).1] at e;cases e
  have sub:∀ c,c∉[z,TI,TO,i1,i2]->c∉[z,TO,i1,i2]:=λ c hc hc'=>hc (by
   simp only [List.mem_cons,List.not_mem_nil,or_false] at hc' ⊢
   rcases hc' with h|h|h|h
   ·exact .inl h
   ·exact .inr (.inr (.inl h))
   ·exact .inr (.inr (.inr (.inl h)))
   ·exact .inr (.inr (.inr (.inr h))))
  have k:∀ b o,b∉[z,TI,TO,i1,i2]->s.heap.get? b=some o->h'.get? b=some o:=λ b o hb e=>hk b o (sub b hb) e
  refine I.step (g':=s.gens) (d':=s.drawn) (ch:=[z,TI,TO,i1,i2]) (λ b hb=>?_) (λ b o _ _ hc e _=>k b o hc e) (λ b o _ _ hc e _=>⟨o.slots,k b o hc e⟩) (λ b ob _ e n=>n)
   (λ b o hc e=>⟨o,k b o hc e⟩) (λ b xs e=>e) (λ b u xs e=>e) (λ b ps e=>⟨#[],by rw [e];simp⟩) (λ m hm=>?_) (λ b u e=>?_) I.bare
  ·obtain⟨_,q1,q2,q3,q4,q5⟩:=hf b hb
   exact⟨q3,q1,q4,q5⟩
  ·obtain⟨ob,es,ep,ho,r⟩:=hm
   exact⟨ob,es,ep,k _ ob (λ z=>(hf _ z).2.1 rfl) ho,r⟩
  ·refine (I.hok b u e).stay (λ c v hc q=>k c v ?_ q) (λ c q=>q) λ c xs q=>q
   rcases hc with z|z
   ·rw [z];exact nit b u e
   ·exact nit c _ z
 self:=λ _ _ _ _ _ st h=>wpAny_pyIter_zip st.1 h
section
variable {X:Cx}{G:Fc}{a b:Expr}{p pos tpos:Pos}{elts:List Expr}{tk:Nat}
noncomputable def Aye (K:PySem.W.Frag) (ta:TA):TI:=λ σ H Rr=>ta σ H λ vs H1=>∃ a b,vs=[.ref a,.ref b]/\(∃ xs,SqL K H1 a xs)/\(∃ ys,SqL K H1 b ys)/\Rr (Itz K a b) H1
theorem Apl {ta:TA}(hg:Gl X "zip") (hm:X.mg "zip"=none) (ha:PA X [a,b] ta) (hs:starEach [a,b] X.env=[(false,eval a X.env),(false,eval b X.env)]:=by rfl) (hs2:starEach [b] X.env=[(false,eval b X.env)]:=by rfl) :
  PI X (.Tuple elts tk tpos) (.Call (.Name "zip" p) [a,b] [] pos) (Aye X.K ta):=by
 intro pins s σ H Rr I h
 refine Call_ (Qf I hg hm boot_zip (PyProof.Rows.callWith_type1 (thn (ha pos pins s σ H _ I h) λ us s1 ⟨vs,H1,I1,r1,q1⟩=>?_) (by rw [hs,hs2]) (by rw [hs2];rfl)))
 obtain⟨l1,l2,e,⟨xs,hx⟩,⟨ys,hy⟩,q⟩:=q1
 subst e
 cases r1 with
 | cons r rr =>
  cases rr with
  | cons r' rr =>
   cases rr
   cases r
   cases r'
   obtain⟨its1,rv1,p1,hz1⟩:=I1.list hx
   obtain⟨its2,rv2,p2,hz2⟩:=I1.list hy
   have hlt1:l1<s1.heap.objs.size:=by obtain⟨o,e,_⟩:=p1.isList;exact Heap.lt_size e
   have hlt2:l2<s1.heap.objs.size:=by obtain⟨o,e,_⟩:=p2.isList;exact Heap.lt_size e
   refine call_zip_2 p1.isList p2.isList λ h' hz hTI hTO hi1 hi2 hsz hk=>?_
   refine wpAny_pyIter_zip hz ?_
   have D:ZipApart (s1.heap.objs.size+4) (s1.heap.objs.size+2) (s1.heap.objs.size+3) s1.heap.objs.size (s1.heap.objs.size+1) l1 l2:=PySem.W.ktu_apart _ _ _ hlt1 hlt2
   refine⟨_,[s1.heap.objs.size+4,s1.heap.objs.size+2,s1.heap.objs.size+3,s1.heap.objs.size,s1.heap.objs.size+1],_,_,H1,rfl,I1.kept (t':=s1.toks) hk,Ahh l1 l2 _ _ _ _ _ D,⟨hz,hTI,⟨_,_,hTO⟩,hi1,hi2⟩,λ c hc=>?_,q⟩
   have hge:s1.heap.objs.size<=c:=by
    simp only [List.mem_cons,List.not_mem_nil,or_false] at hc
    rcases hc with rfl|rfl|rfl|rfl|rfl
    ·exact Nat.le_add_right _ _
    ·exact Nat.le_add_right _ _
    ·exact Nat.le_add_right _ _
    ·exact Nat.le_refl _
    ·exact Nat.le_add_right _ _
   exact I1.fpOk hge (I1.hok.fresh hge)
noncomputable def iZ (ma mb:EV):Ev->R (List D):=λ E=>ma E >>= λ x=>mb E >>= λ y=>match x,y with
 | .lst xs,.lst ys=>.ok (List.zipWith (λ a b=>D.tup [a,b]) xs ys)
 | _,_=>.no
theorem Ajd {ma mb:EV}(hg:Gl X "zip") (hm:X.mg "zip"=none) (ha:SF X G a ma) (hb:SF X G b mb) (hs:starEach [a,b] X.env=[(false,eval a X.env),(false,eval b X.env)]:=by rfl) (hs2:starEach [b] X.env=[(false,eval b X.env)]:=by rfl) :
  SI X G (.Tuple elts tk tpos) (.Call (.Name "zip" p) [a,b] [] pos) (iZ ma mb) :=
 (Apl hg hm (Ak ha (Ak hb Bl hs2) (by rw [hs,hs2])) hs hs2).imp λ σ H Q z0=>z0.elim λ E z0=>z0.elim λ hr f=>⟨E,hr,(Fin.bind f).mono λ d p v H1 s1 z=>⟨E,hr.same s1,(Fin.bind p).mono λ e p w H2 s2 y=>by
  cases d with
  | lst xs =>
   cases e with
   | lst ys =>
    have z:=z.mono s2 λ _ q=>q
    unfold Rp at z y
    obtain⟨l1,vs,rfl,no1,h1,r1⟩:=z
    obtain⟨l2,ws,rfl,no2,h2,r2⟩:=y
    refine⟨l1,l2,rfl,⟨vs,SqL.of h1⟩,⟨ws,SqL.of h2⟩,p _ H2 (s1.trans s2) λ G' E' σ' H' le r'=>?_⟩
    have h1':=(locked le r' _ _ no1 h1).1
    have h2':=(locked le r' _ _ no2 h2).1
    refine⟨⟨vs,ws,SqL.of h1',SqL.of h2',by rw [List.length_zipWith,r1.length,r2.length]⟩,λ i d hd=>?_⟩
    have hd':∃ dx dy,xs[i]?=some dx/\ys[i]?=some dy/\d=.tup [dx,dy]:=by
     rw [List.getElem?_zipWith] at hd
     cases e1:xs[i]? with
     | none=>rw [e1] at hd;simp at hd
     | some dx =>
      cases e2:ys[i]? with
      | none=>rw [e1,e2] at hd;simp at hd
      | some dy=>rw [e1,e2] at hd;simp at hd;exact⟨dx,dy,rfl,rfl,hd.symm⟩
    obtain⟨dx,dy,e1,e2,rfl⟩:=hd'
    obtain⟨vx,hvx,px⟩:=r1.get e1
    obtain⟨vy,hvy,py⟩:=r2.get e2
    refine⟨⟨vs,ws,vx,vy,SqL.of h1',SqL.of h2',hvx,hvy⟩,?_⟩
    rintro x H'' ⟨T,ux,uy,ex,nT,eH,q1,q2⟩
    subst ex eH
    have a1:=q1 vs (SqL.of h1')
    have a2:=q2 ws (SqL.of h2')
    rw [hvx] at a1;cases a1
    rw [hvy] at a2;cases a2
    refine⟨Av nT,?_⟩
    unfold Rp
    refine⟨T,[vx,vy],rfl,r'.fresh nT,Aj,Rps.cons ?_ (Rps.cons ?_ Rps.nil)⟩
    ·exact (px.move (locked le r')).mono (Av nT) λ _ q=>q
    ·exact (py.move (locked le r')).mono (Av nT) λ _ q=>q
   | _=>exact p.elim
  | _=>exact p.elim⟩⟩
end
def CallD (K:PySem.W.Frag) (r:List V->Hp->VK->Prop) (f:D->Option D):Prop :=
 ∀ (H:Hp) (O:Addr->Prop) (dx d:D) (v:V) (Q:VK),Sane H O->f dx=some d->Rt K H O dx v->(∀ u H',Same H H'->Rp K H' O d u->Q u H')->r [v] H Q
def Ab6 (K:PySem.W.Frag) (r:List V->Hp->VK->Prop) (f:D->Option D):Prop :=
 ∀ (H:Hp) (O:Addr->Prop) (dx d:D) (v:V) (Q:VK),Sane H O->f dx=some d->Rt K H O dx v->(∀ a H',Same H H'->H a=none->Own K H' (λ b=>O b\/b=a) d a->Q (.ref a) H')->r [v] H Q
section
variable {X:Cx}{G:Fc}{r:List V->Hp->VK->Prop}{f:D->Option D}{x:Str}{p pos:Pos}{e:Expr}{m:EV}
theorem N7 {id:String}(hc:Fy X (.builtin id) r) (hf:CallD X.K r f) (hg:Gl X x) (hm:X.mg x=none) (hv:bootBuiltins x=some (.builtin id)) (he:SE X G e m) (hn:x≠"__name__":=by decide) (hdb:(x == ("__debug__":Str))=false:=by decide)
  (hs:starEach [e] X.env=(false,eval e X.env) :: starEach [] X.env:=by rfl) (hpl:(backTo pos (starEach [] X.env)).any (·.1)=false:=by rfl):SF X G (.Call (.Name x p) [e] [] pos) (e1 f m) :=
 (Ls hc hg hm hv (Ak he Bl hs) hn hdb hs hpl).imp λ σ H Q z0=>z0.elim λ E z0=>z0.elim λ hr h=>⟨E,hr,(Fin.bind h).mono λ dx fx v H1 s1 p1=>by
  obtain⟨d,e,q⟩:=Fin.of fx
  exact hf H1 _ dx d v Q (hr.same s1).sane e p1 λ u H' s z=>q u H' (s1.trans s) z⟩
theorem Ah9 {id:String}(hc:Fy X (.builtin id) r) (hf:Ab6 X.K r f) (hg:Gl X x) (hm:X.mg x=none) (hv:bootBuiltins x=some (.builtin id)) (he:SE X G e m) (hn:x≠"__name__":=by decide) (hdb:(x == ("__debug__":Str))=false:=by decide)
  (hs:starEach [e] X.env=(false,eval e X.env) :: starEach [] X.env:=by rfl) (hpl:(backTo pos (starEach [] X.env)).any (·.1)=false:=by rfl):SN X G (.Call (.Name x p) [e] [] pos) (e1 f m) :=
 (Ls hc hg hm hv (Ak he Bl hs) hn hdb hs hpl).imp λ σ H Q z0=>z0.elim λ E z0=>z0.elim λ hr h=>⟨E,hr,(Fin.bind h).mono λ dx fx v H1 s1 p1=>by
  obtain⟨d,e,q⟩:=Fin.of fx
  refine hf H1 _ dx d v Q (hr.same s1).sane e p1 λ a H' s n z=>q a H' (s1.trans s) ?_ z
  cases w:H a with
  | none=>rfl
  | some o=>rw [s1 _ _ w] at n;cases n⟩
theorem T7 {T:String}(hc:Fy X (.type T) r) (hf:Ab6 X.K r f) (hg:Gl X x) (hm:X.mg x=none) (hv:bootBuiltins x=some (.type T)) (he:SE X G e m) (hn:x≠"__name__":=by decide) (hdb:(x == ("__debug__":Str))=false:=by decide)
  (hs:starEach [e] X.env=(false,eval e X.env) :: starEach [] X.env:=by rfl) (hpl:(backTo pos (starEach [] X.env)).any (·.1)=false:=by rfl):SN X G (.Call (.Name x p) [e] [] pos) (e1 f m) :=
 (Aeb hc hg hm hv (Ak he Bl hs) hn hdb hs hpl).imp λ σ H Q z0=>z0.elim λ E z0=>z0.elim λ hr h=>⟨E,hr,(Fin.bind h).mono λ dx fx v H1 s1 p1=>by
  obtain⟨d,e,q⟩:=Fin.of fx
  refine hf H1 _ dx d v Q (hr.same s1).sane e p1 λ a H' s n z=>q a H' (s1.trans s) ?_ z
  cases w:H a with
  | none=>rfl
  | some o=>rw [s1 _ _ w] at n;cases n⟩
end
theorem X3 {prog:Program}{w:World}{K:Type} [DecidableEq K] (knd:HeapKind prog w K) (d:Addr) (hd:(d == sysModules)=false) :
  MeetsIn prog w (Builtin.«dict.__len__» ⟨[.ref d],[]⟩) (λ _ R s=>∃ kvs:List (K × Addr × Value),s.heap.DictOfH knd d kvs/\R (.ok (.ret (.int kvs.length s.toks))) { s with toks:=s.toks+1 }) :=
 .of_wp λ A R s ⟨kvs,hm,h⟩=>by
  obtain⟨o,es,ep,ho,hc,hdat,hk,hp⟩:=hm
  show wpAny _ _ (dictSize d >>= _) _ _ s
  unfold dictSize
  refine wpAny_bind (wpAny_bind (wpAny_dictEntries ho hdat (wpAny_pure ?_)))
  show wpAny _ _ (Builtin.Dict.pendingCount d >>= _) _ _ s
  refine wpAny_bind (wpAny_pendingCount_other hd ?_)
  refine wpAny_ret_mkInt ?_
  have:es.size=kvs.length:=by
   have:=congrArg List.length hk
   simpa using this
  rw [Nat.add_zero,this];exact h
theorem Acl {prog:Program}{w:World}{A:Around}{E:Value->Shared->Prop}{s:Shared}{K:Type} [DecidableEq K] {knd:HeapKind prog w K}{d:Addr}{kvs:List (K × Addr × Value)}{Q:Value->Shared->Prop}(hd:(d == sysModules)=false) (hm:s.heap.DictOfH knd d kvs) (hfit:(kvs.length:Int)<2 ^ 63)
  (h:Q (.int kvs.length (s.toks+1)) { s with toks:=s.toks+1+1 }):wpAny (model prog w) A (call (.builtin "len") [.ref d]) Q E s:=by
 refine Calls.call_function_entry kind_len plain_len entry_len (args_len1 _) ?_
 unfold Builtin.«len»
 refine wpAny_bind (m:=oneArg "len" _) (wpAny_pure ?_)
 refine wpAny_bind (m:=callSpecial? (.ref d) (Str.ofString "__len__")) (wpAny_callSpecial?_slot (name:=Str.ofString "__len__") hm.typeIs F.slot_dict_len
  (call_meetsIn F.slot_dict_len hm.typeIs F.entry_dict_len (F.args_dict_len_1 _) (X3 knd d hd) ⟨kvs,hm,?_⟩))
 show wpAny _ _ _ _ _ { s with toks:=s.toks+1 }
 refine wpAny_bind (wpAny_holding (wpAny_pure ?_))
 refine wpAny_bind (wpAny_letGo ?_)
 show wpAny _ _ (if ((kvs.length:Nat):Int)<0 then _ else _) _ _ _
 rw [if_neg (by omega)]
 show wpAny _ _ (if ((kvs.length:Nat):Int) ≥ 2 ^ 63 then _ else _) _ _ _
 rw [if_neg (by omega)]
 exact wpAny_bind (wpAny_mkInt (wpAny_pure ⟨_,rfl,h⟩))
section
variable {X:Cx}
theorem Adb:Fy X (.builtin "len") (λ xs H Q=>∃ a kvs,xs=[V.ref a]/\Rd H a (.dT kvs)/\Q (.int kvs.length) H):=by
 intro pins s σ H xs us Q I r h
 obtain⟨a,kvs,rfl,ha,q⟩:=h
 obtain⟨u,rfl,ru⟩:=vals1 r
 cases ru
 obtain⟨z,hd,ys,rel,dd⟩:=Vd I.hok ha
 have hl:ys.length=kvs.length:=(Paired.length rel).symm
 refine Acl hd dd (by rw [hl];rw [sizeLine_eq] at z;omega) ?_
 rw [hl]
 exact⟨.int kvs.length,H,I.tok _,⟨_,rfl⟩,q⟩
def Awf (K:PySem.W.Frag):List V->Hp->VK->Prop:=λ xs H Q=>(∃ p ys,xs=[.ref p]/\(SqL K H p ys\/SqT K H p ys)/\Q (.int ys.length) H)\/(∃ z,xs=[.str z]/\z.length<=sizeLine/\Q (.int z.length) H)\/(∃ a kvs,xs=[V.ref a]/\Rd H a (.dT kvs)/\Q (.int kvs.length) H)
theorem Zg:Fy X (.builtin "len") (Awf X.K):=Vu.or (Wr.or Adb)
noncomputable def Yp:D->Option D
 | .lst ds=>some (.int ds.length)
 | .tup ds=>some (.int ds.length)
 | .scr ns=>some (.int ns.length)
 | .dic kvs=>some (.int kvs.length)
 | .str z=>if z.length<=1000000 then some (.int z.length) else none
 | _=>none
theorem An9 {K:PySem.W.Frag}:CallD K (Awf K) Yp:=λ H O dx d v Q fr e rx q=>by
 cases dx with
 | lst ds =>
  cases e
  obtain⟨a,vs,rfl,h1,r1⟩:=rx.lst
  exact .inl ⟨a,vs,rfl,.inl (SqL.of h1),by rw [r1.length];exact q _ H (Same.refl _) (by unfold Rp;rfl)⟩
 | tup ds =>
  cases e
  obtain⟨a,vs,rfl,h1,r1⟩:=rx.tup
  exact .inl ⟨a,vs,rfl,.inr (SqT.of h1),by rw [r1.length];exact q _ H (Same.refl _) (by unfold Rp;rfl)⟩
 | scr ns =>
  cases e
  rcases rx with rx|⟨_,_,h⟩
  ·obtain⟨a,rfl,h1⟩:=rx.scr
   exact .inl ⟨a,_,rfl,.inl h1,by rw [List.length_map];exact q _ H (Same.refl _) (by unfold Rp;rfl)⟩
  ·exact h.elim
 | dic kvs =>
  cases e
  obtain⟨a,ws,rfl,h1,r1⟩:=rx.dic
  exact .inr (.inr ⟨a,ws,rfl,h1,by rw [r1.length];exact q _ H (Same.refl _) (by unfold Rp;rfl)⟩)
 | str z =>
  simp only [Yp] at e
  split at e
  ·rename_i hz
   cases e
   exact .inr (.inl ⟨z,by rw [rx.str],by rw [sizeLine_eq];omega,q _ H (Same.refl _) (by unfold Rp;rfl)⟩)
  ·cases e
 | _=>cases e
def Aoa (K:PySem.W.Frag):List V->Hp->VK->Prop:=λ xs H Q=>∃ p ys,xs=[.ref p]/\(SqL K H p ys\/SqT K H p ys)/\∀ l,H l=none->Q (.ref l) (upd H l (.lst ys))
theorem Af1:Fy X (.type "list") (Aoa X.K):=U9
noncomputable def V3:D->Option D
 | .lst ds=>some (.lst ds)
 | .tup ds=>some (.lst ds)
 | _=>none
theorem Alh {K:PySem.W.Frag}:Ab6 K (Aoa K) V3:=λ H O dx d v Q fr e rx q=>by
 cases dx with
 | lst ds =>
  cases e
  obtain⟨a,vs,rfl,h1,r1⟩:=rx.lst
  exact⟨a,vs,rfl,.inl (SqL.of h1),λ l hl=>q l _ (Av hl) hl ⟨vs,Aj,(r1.fresh hl).mono (Av hl) λ _ z=>z⟩⟩
 | tup ds =>
  cases e
  obtain⟨a,vs,rfl,h1,r1⟩:=rx.tup
  exact⟨a,vs,rfl,.inr (SqT.of h1),λ l hl=>q l _ (Av hl) hl ⟨vs,Aj,(r1.fresh hl).mono (Av hl) λ _ z=>z⟩⟩
 | _=>cases e
theorem Sv {pins:List (Addr × Obj)}{σ:St}{H:Hp}{s:Shared}{p:Addr}{bs:List Bool}{E:Value->Shared->Prop}(hc:X.calm=true) (I:Inv X pins σ H s) (h:SqL X.K H p (bs.map V.bl)) {Qz:Bool->Value->Shared->Prop}(neg:Bool)
  (q:∀ s',Inv X pins σ H s'->Qz neg (.bool (if neg then bs.any id else bs.all id)) s') :
  wpAny (model X.prog X.w) X.A.in1 (pyIter (.ref p)) (λ it s₂=>∃ I fp wr n P St tr,it=.ref I/\Walks X.prog X.w X.A.in1 I fp wr n P St/\St 0 s₂.heap/\TruthOf X.prog X.w X.A.in1 P tr ∧
   ∀ h' tk,(∀ b o,b∉wr->s₂.heap.get? b=some o->h'.get? b=some o)->Qz neg (.bool (if neg then (List.range n).any tr else (List.range n).all tr)) { s₂ with heap:=h',toks:=tk }) E s:=by
 obtain⟨its,rv,pl,hz⟩:=I.list h
 have hl:its.length=bs.length:=by rw [<-rv.length];simp
 have hp:p≠s.heap.objs.size:=by obtain⟨o,e,_⟩:=pl.isList;exact Nat.ne_of_lt (Heap.lt_size e)
 have at':∀ (i:Nat) (v:Value),its.toArray[i]?=some v->∃ b,bs[i]?=some b/\v=.bool b:=λ i v e=>by
  have e:its[i]?=some v:=by simpa using e
  have hi:i<bs.length:=by rw [<-hl];exact (List.getElem?_eq_some_iff.mp e).1
  obtain⟨u,e1,r1⟩:=rv.get (i:=i) (x:=.bl bs[i]) (by simp [hi])
  rw [e] at e1;cases e1
  exact⟨bs[i],by simp [hi],r1⟩
 refine wpAny_pyIter_list pl.isList ⟨s.heap.objs.size,_,_,_,_,_,λ i=>bs.getD i false,rfl,Walks.list (by show X.A.handled=none;exact I.ok.hd hc) _ p hp its.toArray,⟨⟨_,Heap.get?_push_size _ rfl,rfl,rfl⟩,pl.isList.at λ o e=>Heap.get?_push_of_some _ e⟩,?_,λ h' tk k=>?_⟩
 ·intro i v s' Q' E' hP hQ
  obtain⟨b,e1,rfl⟩:=at' i v hP
  refine wpAny_truthy_bool ?_
  dsimp only at hQ
  rw [List.getD_eq_getElem?_getD,e1] at hQ
  exact hQ
 ·have I':Inv X pins σ H { s with heap:=h',toks:=tk }:=I.kept λ b o e=>k b o (by
   have:=Heap.lt_size e
   simp only [List.mem_cons,List.not_mem_nil,or_false]
   exact Nat.ne_of_lt this) (Heap.get?_push_of_some _ e)
  have e1:(List.range its.toArray.size).any (λ i=>bs.getD i false)=bs.any id:=by
   rw [List.size_toArray,hl]
   conv=>rhs;rw [<-range_getD bs false]
   rw [List.any_map];rfl
  have e2:(List.range its.toArray.size).all (λ i=>bs.getD i false)=bs.all id:=by
   rw [List.size_toArray,hl]
   conv=>rhs;rw [<-range_getD bs false]
   rw [List.all_map];rfl
  rw [e1,e2]
  exact q _ I'
def Awg (K:PySem.W.Frag):List V->Hp->VK->Prop:=λ xs H Q=>∃ (p:Addr) (bs:List Bool),xs=[.ref p]/\SqL K H p (bs.map V.bl)/\Q (.bl (bs.all id)) H
def Avd (K:PySem.W.Frag):List V->Hp->VK->Prop:=λ xs H Q=>∃ (p:Addr) (bs:List Bool),xs=[.ref p]/\SqL K H p (bs.map V.bl)/\Q (.bl (bs.any id)) H
theorem Aen (hc:X.calm=true):Fy X (.builtin "all") (Awg X.K):=by
 intro pins s σ H xs us Q I r h
 obtain⟨p,bs,rfl,hp,q⟩:=h
 obtain⟨u,rfl,ru⟩:=vals1 r
 cases ru
 refine call_all_walk ?_
 exact Sv (Qz:=λ _=>EP X pins σ Q) hc I hp false λ s' I'=>⟨.bl _,H,I',rfl,q⟩
theorem Adh (hc:X.calm=true):Fy X (.builtin "any") (Avd X.K):=by
 intro pins s σ H xs us Q I r h
 obtain⟨p,bs,rfl,hp,q⟩:=h
 obtain⟨u,rfl,ru⟩:=vals1 r
 cases ru
 refine call_any_walk ?_
 exact Sv (Qz:=λ _=>EP X pins σ Q) hc I hp true λ s' I'=>⟨.bl _,H,I',rfl,q⟩
noncomputable def bls:List D->Option (List Bool)
 | []=>some []
 | .bl b :: r=>(bls r).map (b :: ·)
 | _ :: _=>none
theorem Ur:∀ {ds:List D}{bs:List Bool},bls ds=some bs->ds=bs.map D.bl
 | [],bs,h=>by simp [bls] at h;subst h;rfl
 | .bl i :: r,ns,h=>by
  simp only [bls,Option.map_eq_some_iff] at h
  obtain⟨ms,h1,rfl⟩:=h
  rw [Ur h1];rfl
 | .non :: r,ns,h=>by simp [bls] at h
 | .int _ :: r,ns,h=>by simp [bls] at h
 | .str _ :: r,ns,h=>by simp [bls] at h
 | .tup _ :: r,ns,h=>by simp [bls] at h
 | .lst _ :: r,ns,h=>by simp [bls] at h
 | .dic _ :: r,ns,h=>by simp [bls] at h
 | .scr _ :: r,ns,h=>by simp [bls] at h
@[simp] theorem Aki:∀ bs:List Bool,bls (bs.map D.bl)=some bs
 | []=>rfl
 | n :: ns=>by simp [bls,Aki ns]
theorem Rps.bls {K:PySem.W.Frag}{H:Hp}{O:Addr->Prop}:∀ {ns:List Bool}{vs:List V},Rps K H O (ns.map D.bl) vs->vs=ns.map V.bl
 | [],vs,h=>by unfold Rps at h;exact h
 | n :: ns,vs,h=>by
  unfold Rps at h
  obtain⟨v,r,rfl,p,q⟩:=h
  unfold Rp at p
  rw [p,Rps.bls q];rfl
noncomputable def Akc:D->Option D
 | .lst ds=>(bls ds).map λ bs=>.bl (bs.all id)
 | _=>none
noncomputable def Arp:D->Option D
 | .lst ds=>(bls ds).map λ bs=>.bl (bs.any id)
 | _=>none
theorem Ap0 {K:PySem.W.Frag}:CallD K (Awg K) Akc:=λ H O dx d v Q fr e rx q=>by
 cases dx with
 | lst ds =>
  simp only [Akc,Option.map_eq_some_iff] at e
  obtain⟨bs,e,rfl⟩:=e
  obtain⟨a,vs,rfl,h1,r1⟩:=rx.lst
  rw [Ur e] at r1
  exact⟨a,bs,rfl,SqL.of (by rw [<-r1.bls];exact h1),q _ H (Same.refl _) (by unfold Rp;rfl)⟩
 | _=>cases e
theorem Aqf {K:PySem.W.Frag}:CallD K (Avd K) Arp:=λ H O dx d v Q fr e rx q=>by
 cases dx with
 | lst ds =>
  simp only [Arp,Option.map_eq_some_iff] at e
  obtain⟨bs,e,rfl⟩:=e
  obtain⟨a,vs,rfl,h1,r1⟩:=rx.lst
  rw [Ur e] at r1
  exact⟨a,bs,rfl,SqL.of (by rw [<-r1.bls];exact h1),q _ H (Same.refl _) (by unfold Rp;rfl)⟩
 | _=>cases e
end
end M
namespace M
open PySem PySem.W PySem.Spec PyProof.Rows L2
structure LtOk (lt:Nat->Nat->Bool):Prop where
 refl:∀ a,lt a a=false
 tr:∀ {a b c},lt b a=false->lt c b=false->lt c a=false
 as:∀ {a b},lt a b=true->lt b a=false
noncomputable def _root_.PySem.W.KasT.kgo {α:Type}(n:Nat) (lt:Nat->Nat->Bool) (P:α->Prop):KasT α->Prop
 | .ret a=>P a
 | .ask i j k=>i<n/\j<n/\(k (lt i j)).kgo n lt P
section
variable {n:Nat}{lt:Nat->Nat->Bool}
theorem Ke {α β:Type}{f:α->KasT β}{P:β->Prop}:∀ {t:KasT α},t.kgo n lt (λ a=>(f a).kgo n lt P)->(t.bind f).kgo n lt P
 | .ret _,h=>h
 | .ask i j k,h=>⟨h.1,h.2.1,Ke (t:=k (lt i j)) h.2.2⟩
theorem Hj {α:Type}{P Q:α->Prop}(pq:∀ a,P a->Q a):∀ {t:KasT α},t.kgo n lt P->t.kgo n lt Q
 | .ret _,h=>pq _ h
 | .ask i j k,h=>⟨h.1,h.2.1,Hj pq (t:=k (lt i j)) h.2.2⟩
theorem Ajb {α:Type}{cmp:Nat->Nat->(Bool->Shared->Prop)->Shared->Prop}{s:Shared}{P:α->Prop}{Q:α->Shared->Prop}(hc:∀ i j C,i<n->j<n->C (lt i j) s->cmp i j C s) (pq:∀ a,P a->Q a s):∀ {t:KasT α},t.kgo n lt P->t.kasWp cmp Q s
 | .ret _,h=>pq _ h
 | .ask i j k,h=>hc i j _ h.1 h.2.1 (Ajb hc pq (t:=k (lt i j)) h.2.2)
def Pm (n:Nat) (p:Array Nat):Prop:=p.Perm (List.range n).toArray
theorem Pm.size {p:Array Nat}(h:Pm n p):p.size=n:=by have:=h.size_eq;simpa using this
theorem Pm.bd {p:Array Nat}(h:Pm n p) (h1:1<=n) (i:Nat):p.getD i 0<n:=by
 by_cases hi:i<p.size
 ·have hm:p[i]∈p:=Array.getElem_mem hi
  have:p[i]∈(List.range n).toArray:=(h.mem_iff).mp hm
  simp at this
  simpa [Array.getD,hi] using this
 ·simp [Array.getD,hi];omega
def Sd (lt:Nat->Nat->Bool) (p:Array Nat) (m:Nat):Prop:=∀ i j,i<=j->j<m->lt (p.getD j 0) (p.getD i 0)=false
def Sf (lt:Nat->Nat->Bool) (p:Array Nat) (m:Nat):Prop:=∀ i j,i<=j->j<m->lt (p.getD i 0) (p.getD j 0)=false
def Eqv (lt:Nat->Nat->Bool) (a b:Nat):Prop:=lt a b=false/\lt b a=false
variable (L:LtOk lt)
include L
theorem Eqv.l {a b c:Nat}(e:Eqv lt a b) (h:lt c a=false):lt c b=false:=L.tr e.1 h
theorem Eqv.r {a b c:Nat}(e:Eqv lt a b) (h:lt a c=false):lt b c=false:=L.tr h e.2
theorem Sf.eqv {p q:Array Nat}{m:Nat}(h:Sf lt p m) (e:∀ k,k<m->Eqv lt (p.getD k 0) (q.getD k 0)):Sf lt q m:=λ i j hij hj =>
 Eqv.r L (e i (by omega)) (Eqv.l L (e j hj) (h i j hij hj))
theorem Ad7 {p:Array Nat}(hp:Pm n p) (h1:1<=n):∀ (f m:Nat),1<=m->m+f<=n->Sd lt p m->(kas_asc p f m).kgo n lt λ r=>m<=r/\r<=m+f/\Sd lt p r/\(r<m+f->lt (p.getD r 0) (p.getD (r-1) 0)=true)
 | 0,m,_,_,hs=>⟨Nat.le_refl _,Nat.le_refl _,hs,λ h=>absurd h (Nat.lt_irrefl _)⟩
 | f+1,m,hm,hf,hs=>by
  refine⟨hp.bd h1 _,hp.bd h1 _,?_⟩
  cases c:lt (p.getD m 0) (p.getD (m-1) 0) with
  | true=>dsimp only;rw [if_pos rfl];exact⟨Nat.le_refl _,by omega,hs,λ _=>c⟩
  | false =>
   dsimp only
   rw [if_neg Bool.false_ne_true]
   refine Hj (λ r ⟨q1,q2,q3,q4⟩=>⟨by omega,by omega,q3,λ h=>q4 (by omega)⟩) (Ad7 hp h1 f (m+1) (by omega) (by omega) λ i j hij hj=>?_)
   by_cases hjm:j<m
   ·exact hs i j hij hjm
   ·have:j=m:=by omega
    subst this
    by_cases hi:i=j
    ·subst hi;exact L.refl _
    ·exact L.tr (hs i (j-1) (by omega) (by omega)) c
theorem Qd {p:Array Nat}{i j:Nat}(hj:j<=p.size) (k:Nat):(kas_rev p i j).getD k 0=if i<=k/\k<j then p.getD (i+j-1-k) 0 else p.getD k 0:=by
 unfold kas_rev
 have:=getElem?_mirror_all (xs:=p) (i:=i) hj k
 rw [Array.getD_eq_getD_getElem?,this]
 split
 ·rw [Array.getD_eq_getD_getElem?]
 ·rw [Array.getD_eq_getD_getElem?]
omit L in
theorem V4 {p:Array Nat}{i j:Nat}(hp:Pm n p):Pm n (kas_rev p i j):=(mirror_perm p i j _).trans hp
theorem Yt {p:Array Nat}{i j:Nat}(hj:j<=p.size) (e:∀ a b,i<=a->a<j->i<=b->b<j->lt (p.getD a 0) (p.getD b 0)=false) (k:Nat):Eqv lt (p.getD k 0) ((kas_rev p i j).getD k 0):=by
 rw [Qd L hj]
 split
 ·rename_i h
  exact⟨e _ _ (by omega (config:={})) (by omega (config:={})) (by omega (config:={})) (by omega (config:={})),e _ _ (by omega (config:={})) (by omega (config:={})) (by omega (config:={})) (by omega (config:={}))⟩
 ·exact⟨L.refl _,L.refl _⟩
theorem Ug (h1:1<=n):∀ (f:Nat) (p:Array Nat) (m q:Nat),Pm n p->Sf lt p m->q+1<=m->(∀ a b,m-(q+1)<=a->a<m->m-(q+1)<=b->b<m->lt (p.getD a 0) (p.getD b 0)=false)->m+f<=n →
  (kas_desc f p m q).kgo n lt λ r=>Pm n r.1/\Sf lt r.1 r.2.1/\m<=r.2.1/\r.2.1<=m+f/\r.2.2+1<=r.2.1/\∀ a b,r.2.1-(r.2.2+1)<=a->a<r.2.1->r.2.1-(r.2.2+1)<=b->b<r.2.1->lt (r.1.getD a 0) (r.1.getD b 0)=false
 | 0,p,m,q,hp,hs,hq,he,_=>⟨hp,hs,Nat.le_refl _,Nat.le_refl _,hq,he⟩
 | f+1,p,m,q,hp,hs,hq,he,hf=>by
  refine⟨hp.bd h1 _,hp.bd h1 _,?_⟩
  have step:∀ {p':Array Nat},(∀ k,k<m->Eqv lt (p.getD k 0) (p'.getD k 0))->p'.getD m 0=p.getD m 0->lt (p.getD m 0) (p.getD (m-1) 0)=true->Sf lt p' (m+1):=λ {p'} e em c i j hij hj=>by
   by_cases hjm:j<m
   ·exact Sf.eqv L hs e i j hij hjm
   ·have:j=m:=by omega
    subst this
    by_cases hi:i=j
    ·subst hi;exact L.refl _
    ·rw [em]
     refine Eqv.r L (e i (by omega)) ?_
     exact L.tr (L.as c) (hs i (j-1) (by omega) (by omega))
  have wk:∀ {P Q:Array Nat × Nat × Nat->Prop},(∀ r,P r->Q r)->∀ {t:KasT (Array Nat × Nat × Nat)},t.kgo n lt P->t.kgo n lt Q:=λ pq _ h=>Hj pq h
  cases c:lt (p.getD m 0) (p.getD (m-1) 0) with
  | true =>
   dsimp only
   rw [if_pos rfl]
   by_cases hq0:q > 0
   ·rw [if_pos hq0]
    have hsz:m<=p.size:=by rw [hp.size];omega
    have ev:=Yt L (i:=m-(q+1)) hsz he
    have em:(kas_rev p (m-(q+1)) m).getD m 0=p.getD m 0:=by rw [Qd L hsz,if_neg (by omega)]
    refine wk (λ r ⟨q1,q2,q3,q4,q5,q6⟩=>⟨q1,q2,by omega,by omega,q5,q6⟩) (Ug h1 f _ (m+1) 0 (V4 hp) (step (λ k hk=>ev k) em c) (by omega) (λ a b h1 h2 h3 h4=>?_) (by omega))
    have:a=b:=by omega
    subst this;exact L.refl _
   ·rw [if_neg hq0]
    refine wk (λ r ⟨q1,q2,q3,q4,q5,q6⟩=>⟨q1,q2,by omega,by omega,q5,q6⟩) (Ug h1 f _ (m+1) 0 hp (step (λ k _=>⟨L.refl _,L.refl _⟩) rfl c) (by omega) (λ a b h1 h2 h3 h4=>?_) (by omega))
    have:a=b:=by omega
    subst this;exact L.refl _
  | false =>
   dsimp only
   rw [if_neg Bool.false_ne_true]
   refine⟨hp.bd h1 _,hp.bd h1 _,?_⟩
   cases d:lt (p.getD (m-1) 0) (p.getD m 0) with
   | true=>dsimp only;rw [if_pos rfl];exact⟨hp,hs,Nat.le_refl _,Nat.le_add_right _ _,hq,he⟩
   | false =>
    dsimp only
    rw [if_neg Bool.false_ne_true]
    have ev:Eqv lt (p.getD (m-1) 0) (p.getD m 0):=⟨d,c⟩
    refine wk (λ r ⟨q1,q2,q3,q4,q5,q6⟩=>⟨q1,q2,by omega,by omega,q5,q6⟩) (Ug h1 f _ (m+1) (q+1) hp (λ i j hij hj=>?_) (by omega) (λ a b h1 h2 h3 h4=>?_) (by omega))
    ·by_cases hjm:j<m
     ·exact hs i j hij hjm
     ·have:j=m:=by omega
      subst this
      by_cases hi:i=j
      ·subst hi;exact L.refl _
      ·exact Eqv.l L ev (hs i (j-1) (by omega) (by omega))
    ·by_cases ha:a<m
     ·by_cases hb:b<m
      ·exact he a b (by omega) ha (by omega) hb
      ·have:b=m:=by omega
       subst this
       exact Eqv.l L ev (he a (b-1) (by omega) ha (by omega) (by omega))
     ·have:a=m:=by omega
      subst this
      by_cases hb:b<a
      ·exact Eqv.r L ev (he (a-1) b (by omega) (by omega) (by omega) hb)
      ·have:b=a:=by omega
       subst this;exact L.refl _
def Al7 (n:Nat) (lt:Nat->Nat->Bool) (r:Nat × Array Nat):Prop:=Pm n r.2/\1<=r.1/\r.1<=n/\Sd lt r.2 r.1
theorem Zj (h1:1<=n) {p:Array Nat}{m:Nat}(hp:Pm n p) (hm:1<=m) (hmn:m<=n) (hs:Sf lt p m):(kas_tail3 m n p).kgo n lt (Al7 n lt):=by
 refine Ke ?_
 have hsz:m<=p.size:=by rw [hp.size];omega (config:={})
 refine Hj (λ r ⟨q1,q2,q3,_⟩=>⟨V4 hp,by omega (config:={}),by omega (config:={}),q3⟩) (Ad7 L (V4 hp) h1 (n-m) m hm (by omega (config:={})) λ i j hij hj=>?_)
 rw [Qd L hsz,Qd L hsz,if_pos (by omega (config:={})),if_pos (by omega (config:={}))]
 exact hs _ _ (by omega (config:={})) (by omega (config:={}))
theorem Ot (h1:1<=n) {p:Array Nat}{m:Nat}(hp:Pm n p) (hmn:m+1<=n) (hs:Sf lt p (m+1)):(kas_descPart m n p).kgo n lt (Al7 n lt):=by
 refine Ke (Hj (λ r ⟨q1,q2,q3,q4,q5,q6⟩=>?_) (Ug L h1 (n-(m+1)) p (m+1) 0 hp hs (by omega) (λ a b h1 h2 h3 h4=>by
  have:a=b:=by omega
  subst this;exact L.refl _) (by omega)))
 split
 ·exact Zj L h1 (V4 q1) (by omega) (by omega) (Sf.eqv L q2 λ k _=>Yt L (by rw [q1.size];omega) q6 k)
 ·exact Zj L h1 q1 (by omega) (by omega) q2
theorem Ah7 (h2:2<=n) {p:Array Nat}(hp:Pm n p):(kas_count n p).kgo n lt (Al7 n lt):=by
 refine Ke (Hj (λ r ⟨q1,q2,q3,q4⟩=>?_) (Ad7 L hp (by omega) (n-1) 1 (Nat.le_refl _) (by omega) λ i j hij hj=>by
  have:i=j:=by omega
  subst this;exact L.refl _))
 split
 ·exact⟨hp,q1,by omega,q3⟩
 ·rename_i hr
  have hr':r<n:=by
   have:¬ r=n:=by simpa using hr
   omega
  have hc:=q4 (by omega)
  split
  ·rename_i hr1
   refine⟨hp.bd (by omega) _,hp.bd (by omega) _,?_⟩
   cases c:lt (p.getD 0 0) (p.getD (r-1) 0) with
   | true=>dsimp only;rw [if_pos rfl];exact⟨hp,q1,by omega,q3⟩
   | false =>
    dsimp only
    rw [if_neg Bool.false_ne_true]
    have hsz:r<=p.size:=by rw [hp.size];omega
    have all:∀ a b,0<=a->a<r->0<=b->b<r->lt (p.getD a 0) (p.getD b 0)=false:=λ a b _ ha _ hb =>
     L.tr (L.tr (q3 b (r-1) (by omega) (by omega)) c) (q3 0 a (by omega) ha)
    have ev:=Yt L (i:=0) hsz all
    refine Ot L (by omega) (V4 hp) (by omega) λ i j hij hj=>?_
    by_cases hjr:j<r
    ·exact Eqv.r L (ev i) (Eqv.l L (ev j) (all i j (Nat.zero_le _) (by omega) (Nat.zero_le _) hjr))
    ·have:j=r:=by omega
     subst this
     by_cases hi:i=j
     ·subst hi;exact L.refl _
     ·have em:(kas_rev p 0 j).getD j 0=p.getD j 0:=by rw [Qd L hsz,if_neg (by omega)]
      rw [em]
      refine Eqv.r L (ev i) ?_
      exact L.tr (L.as hc) (all i (j-1) (Nat.zero_le _) (by omega) (Nat.zero_le _) (by omega))
  ·have hr1:r=1:=by omega
   subst hr1
   refine Ot L (by omega) hp (by omega) λ i j hij hj=>?_
   by_cases hi:i=j
   ·subst hi;exact L.refl _
   ·have h0:i=0:=by omega
    have h1:j=1:=by omega
    subst h0 h1
    exact L.as hc
theorem Ud (h1:1<=n) {p:Array Nat}{k:Nat}(hp:Pm n p) (hs:Sd lt p k) (hk:k<n):∀ (f l r:Nat),l<=r->r<=k->r-l<=f->(∀ i,i<l->lt (p.getD k 0) (p.getD i 0)=false)->(∀ i,r<=i->i<k->lt (p.getD k 0) (p.getD i 0)=true) →
  (kas_place p k f l r).kgo n lt λ m=>m<=k/\(∀ i,i<m->lt (p.getD k 0) (p.getD i 0)=false)/\∀ i,m<=i->i<k->lt (p.getD k 0) (p.getD i 0)=true
 | 0,l,r,hlr,hrk,hf,ha,hb=>⟨by omega,ha,λ i hi hik=>hb i (by omega) hik⟩
 | f+1,l,r,hlr,hrk,hf,ha,hb=>by
  unfold kas_place
  by_cases h:l ≥ r
  ·rw [if_pos h];exact⟨by omega,ha,λ i hi hik=>hb i (by omega) hik⟩
  ·rw [if_neg h]
   refine⟨hp.bd h1 _,hp.bd h1 _,?_⟩
   cases c:lt (p.getD k 0) (p.getD ((l+r) / 2) 0) with
   | true =>
    dsimp only
    rw [if_pos rfl]
    refine Ud h1 hp hs hk f l ((l+r) / 2) (by omega) (by omega) (by omega) ha λ i hi hik=>?_
    cases d:lt (p.getD k 0) (p.getD i 0) with
    | true=>rfl
    | false =>
     have:=L.tr (hs ((l+r) / 2) i hi hik) d
     rw [c] at this;cases this
   | false =>
    dsimp only
    rw [if_neg Bool.false_ne_true]
    refine Ud h1 hp hs hk f ((l+r) / 2+1) r (by omega) (by omega) (by omega) (λ i hi=>?_) hb
    exact L.tr (hs i ((l+r) / 2) (by omega) (by omega)) c
theorem Aje (h1:1<=n):∀ (f:Nat) (p:Array Nat) (k:Nat),Pm n p->Sd lt p k->k+f=n->1<=k->(kas_bin f p k).kgo n lt λ q=>Pm n q/\Sd lt q n
 | 0,p,k,hp,hs,hk,_=>⟨hp,by rw [<-hk];exact hs⟩
 | f+1,p,k,hp,hs,hk,hk1=>by
  unfold kas_bin
  refine Ke (Hj (?_) (Ud L h1 hp hs (by omega) k 0 k (Nat.zero_le _) (Nat.le_refl _) (by omega) (λ i hi=>absurd hi (Nat.not_lt_zero _)) λ i hi hik=>absurd (Nat.lt_of_lt_of_le hik hi) (Nat.lt_irrefl _)))
  rintro l ⟨hl,ha,hb⟩
  have hb':∀ i,(bubble p k (k-l)).getD i 0=if i=l then p.getD k 0 else if l<i/\i<=k then p.getD (i-1) 0 else p.getD i 0:=λ i=>by
   have:=getElem?_bubble (xs:=p) (src:=k) (by rw [hp.size];omega) (k-l) (by omega) i
   rw [show k-(k-l)=l by omega] at this
   rw [Array.getD_eq_getD_getElem?,this]
   repeat' split
   all_goals rw [Array.getD_eq_getD_getElem?]
  refine Aje h1 f _ (k+1) ((bubble_perm p k _).trans hp) (λ i j hij hj=>?_) (by omega) (by omega)
  rw [hb',hb']
  by_cases hj1:j=l
  ·subst hj1
   rw [if_pos rfl]
   by_cases hi1:i=j
   ·subst hi1;rw [if_pos rfl];exact L.refl _
   ·rw [if_neg hi1,if_neg (by omega)]
    exact ha i (by omega)
  ·rw [if_neg hj1]
   by_cases hi1:i=l
   ·subst hi1
    rw [if_pos rfl,if_pos (by omega)]
    exact L.as (hb (j-1) (by omega) (by omega))
   ·rw [if_neg hi1]
    by_cases hj2:l<j/\j<=k
    ·rw [if_pos hj2]
     by_cases hi2:l<i/\i<=k
     ·rw [if_pos hi2];exact hs _ _ (by omega) (by omega)
     ·rw [if_neg hi2];exact hs _ _ (by omega) (by omega)
    ·rw [if_neg hj2,if_neg (by omega)]
     exact hs _ _ hij (by omega)
theorem Ald (h2:2<=n):(kas_sort n).kgo n lt λ q=>Pm n q/\Sd lt q n:=by
 unfold kas_sort
 refine Ke (Hj (?_) (Ah7 L h2 (Array.Perm.refl _)))
 rintro r ⟨q1,q2,q3,q4⟩
 split
 ·rename_i h
  have e:max r.1 1=r.1:=by omega
  rw [e]
  exact Aje L (by omega) _ _ _ q1 q4 (by omega) q2
 ·have:r.1=n:=by omega
  exact⟨q1,by rw [this] at q4;exact q4⟩
end
section
variable {prog:Program}{w:World}{A:Around}{E:Value->Shared->Prop}{s:Shared}
theorem Adj {vs:List Value}(_:vs.length<2):(vs.toArray.zip vs.toArray).map (·.2)=vs.toArray:=by
 rw [List.zip_toArray,List.map_toArray]
 exact congrArg _ (List.map_snd_zip (Nat.le_refl _))
theorem Qo {a:Addr}{vs:List Value}{n:Nat}{P:PySem.Fin->Shared->Prop}(ho:s.heap.get? a=some (seqObj "list" vs.toArray n)) (h2:vs.length<2)
  (h:P (.done (.ret .none)) { s with heap:=sortedHeap s.heap a vs vs.toArray }):wpAny (model prog w) A (Builtin.«list.sort» ⟨[.ref a],[]⟩) P E s:=by
 rw [list_sort_plain]
 have ha:a<s.heap.objs.size:=Heap.lt_size ho
 refine wpAny_bind (listItems_at ho rfl ?_)
 refine wpAny_bind (listUpdate_at ho rfl ?_ (by rw [List.size_toArray,sizeLine_eq];omega) (Nat.zero_le _))
 obtain⟨e1,ho1⟩:∃ e1,(s.heap.update a (Obj.mapSeq λ _=>#[])).get? a=some (seqObj "list" #[] e1):=⟨_,get?_update_seq ho (λ _=>#[])⟩
 refine wpAny_bind (seqEpoch_at ho1 rfl ?_)
 refine wpAny_bind (wpAny_newTuple ?_ (by show vs.length<=_;rw [sizeLine_eq];omega))
 refine wpAny_bind (wpAny_newList ?_ (Nat.zero_le _))
 refine wpAny_holding ?_
 have ho6:(((s.heap.update a (Obj.mapSeq λ _=>#[])).push (seqObj "tuple" vs.toArray 0)).push (seqObj "list" #[] 0)).get? a=some (seqObj "list" #[] e1):=by
  rw [Heap.get?_push_ne _ _ _ (by rw [size_push',Heap.size_update];exact Nat.ne_of_lt (Nat.lt_succ_of_lt ha)),Heap.get?_push_ne _ _ _ (by rw [Heap.size_update];exact Nat.ne_of_lt ha)]
  exact ho1
 show wpAny (model prog w) A _ P E { s with heap:=((s.heap.update a (Obj.mapSeq λ _=>#[])).push (seqObj "tuple" vs.toArray 0)).push (seqObj "list" #[] 0) }
 dsimp only
 have h2':vs.toArray.size<2:=by simpa using h2
 rw [if_pos h2',if_pos h2']
 refine wpAny_bind (wpAny_pure ?_)
 rw [StateT.run_pure]
 refine wpAny_bind (wpAny_pure ?_)
 dsimp only
 refine wpAny_bind (seqEpoch_at ho6 rfl ?_)
 have hout:(arrOf (SortSt.mk' general' (vs.toArray.zip vs.toArray) #[] 7 none)).map (·.2)=vs.toArray:=by
  exact Adj h2
 refine wpAny_bind (listUpdate_at ho6 rfl ?_ (Nat.zero_le _) (by rw [hout,List.size_toArray,sizeLine_eq];omega))
 simp only [bne_self_eq_false,Bool.false_eq_true,if_false]
 rw [hout]
 exact wpAny_pure h
theorem Vi {l:Addr}{vs:List Value}{Q:Value->Shared->Prop}(hl:s.heap.IsList l vs.toArray) (h2:vs.length<2)
  (h:Q (.ref (s.heap.objs.size+1)) { s with heap:=sortedAll s.heap vs vs.toArray }):wpAny (model prog w) A (call (.builtin "sorted") [.ref l]) Q E s:=by
 refine Calls.call_function_entry kind_sorted plain_sorted entry_sorted (args_sorted1 _) ?_
 unfold Builtin.«sorted»
 refine wpAny_bind (m:=checkCount "sorted" 1 1 _) (wpAny_pure ?_)
 refine wpAny_bind (collect_list hl ?_ (by rw [sizeLine_eq];omega))
 refine wpAny_bind (wpAny_newList ?_ (by rw [sizeLine_eq];omega))
 have hsz:((s.heap.push (seqObj "list" #[] 0)).update s.heap.objs.size (Obj.mapSeq (·++vs.toArray))).objs.size=s.heap.objs.size+1:=by
  rw [Heap.size_update,size_push']
 have hoL:(((s.heap.push (seqObj "list" #[] 0)).update s.heap.objs.size (Obj.mapSeq (·++vs.toArray))).push (seqObj "list" vs.toArray 0)).get? (s.heap.objs.size+1)=some (seqObj "list" vs.toArray 0):=by
  rw [<-hsz];exact Heap.get?_push_size _ rfl
 show wpAny _ _ _ _ _ { s with heap:=((s.heap.push (seqObj "list" #[] 0)).update s.heap.objs.size (Obj.mapSeq (·++vs.toArray))).push (seqObj "list" vs.toArray 0) }
 rw [hsz]
 refine wpAny_bind (wpAny_holding (wpAny_call_entry slot_list_sort ⟨_,hoL,rfl⟩ entry_list_sort (Qo hoL h2 ⟨_,rfl,?_⟩) (args_list_sort _)))
 exact wpAny_pure ⟨_,rfl,h⟩
end
theorem W5:∀ a:List Int,HT.lexLt a a=false
 | []=>rfl
 | x :: xs=>by rw [HT.lexLt_cons,if_pos rfl];exact W5 xs
theorem Ue:∀ {a b:List Int},HT.lexLt a b=true->HT.lexLt b a=false
 | [],[],h=>by cases h
 | [],_ :: _,_=>rfl
 | _ :: _,[],h=>by cases h
 | x :: xs,y :: ys,h=>by
  rw [HT.lexLt_cons] at h ⊢
  by_cases e:x=y
  ·rw [if_pos e] at h;rw [if_pos e.symm];exact Ue h
  ·rw [if_neg e] at h
   rw [if_neg (Ne.symm e)]
   have:=of_decide_eq_true h
   exact decide_eq_false (by omega)
theorem Um:∀ {a b c:List Int},HT.lexLt b a=false->HT.lexLt c b=false->HT.lexLt c a=false
 | a,b,[],h1,h2=>by
  cases b with
  | nil=>exact h1
  | cons y ys=>cases h2
 | [],b,z :: zs,h1,h2=>rfl
 | x :: xs,[],z :: zs,h1,h2=>by cases h1
 | x :: xs,y :: ys,z :: zs,h1,h2=>by
  rw [HT.lexLt_cons] at h1 h2 ⊢
  by_cases e1:y=x
  ·rw [if_pos e1] at h1
   subst e1
   by_cases e2:z=y
   ·rw [if_pos e2] at h2 ⊢;exact Um h1 h2
   ·rw [if_neg e2] at h2 ⊢;exact h2
  ·rw [if_neg e1] at h1
   have q1:=of_decide_eq_false h1
   by_cases e2:z=y
   ·subst e2;rw [if_neg e1];exact h1
   ·rw [if_neg e2] at h2
    have q2:=of_decide_eq_false h2
    rw [if_neg (by omega)]
    exact decide_eq_false (by omega)
theorem Aas:∀ {a b:List Int},HT.lexLt a b=false->HT.lexLt b a=false->a=b
 | [],[],_,_=>rfl
 | [],_ :: _,h,_=>by cases h
 | _ :: _,[],_,h=>by cases h
 | x :: xs,y :: ys,h1,h2=>by
  rw [HT.lexLt_cons] at h1 h2
  by_cases e:x=y
  ·rw [if_pos e] at h1;rw [if_pos e.symm] at h2
   rw [e,Aas h1 h2]
  ·rw [if_neg e] at h1;rw [if_neg (Ne.symm e)] at h2
   have q1:=of_decide_eq_false h1
   have q2:=of_decide_eq_false h2
   omega
noncomputable def Am6 (k:List Int):List (List Int)->List (List Int)
 | []=>[k]
 | j :: r=>if HT.lexLt j k=true then j :: Am6 k r else k :: j :: r
def Nj:List (List Int)->List (List Int)
 | []=>[]
 | k :: r=>Am6 k (Nj r)
def Asc (l:List (List Int)):Prop:=l.Pairwise λ a b=>HT.lexLt b a=false
theorem Pz (k:List Int):∀ l,(Am6 k l).Perm (k :: l)
 | []=>List.Perm.refl _
 | j :: r=>by
  unfold Am6
  split
  ·exact (List.Perm.cons j (Pz k r)).trans (List.Perm.swap k j r)
  ·exact List.Perm.refl _
theorem Sg:∀ l,(Nj l).Perm l
 | []=>List.Perm.refl _
 | k :: r=>(Pz k (Nj r)).trans (List.Perm.cons k (Sg r))
theorem Z8 (k:List Int):∀ {l},Asc l->Asc (Am6 k l)
 | [],_=>List.Pairwise.cons (λ _ h=>by simp at h) List.Pairwise.nil
 | j :: r,h=>by
  unfold Asc at h
  rw [List.pairwise_cons] at h
  unfold Am6
  split
  ·rename_i c
   refine List.Pairwise.cons (λ b hb=>?_) (Z8 k h.2)
   rcases List.mem_cons.mp ((Pz k r).mem_iff.mp hb) with rfl|hb
   ·exact Ue c
   ·exact h.1 b hb
  ·rename_i c
   have c:HT.lexLt j k=false:=by simpa using c
   refine List.Pairwise.cons (λ b hb=>?_) (List.Pairwise.cons h.1 h.2)
   rcases List.mem_cons.mp hb with rfl|hb
   ·exact c
   ·exact Um c (h.1 b hb)
theorem V1:∀ l,Asc (Nj l)
 | []=>List.Pairwise.nil
 | k :: r=>Z8 k (V1 r)
theorem R4:∀ {a b:List (List Int)},Asc a->Asc b->a.Perm b->a=b
 | [],b,_,_,p=>(List.Perm.nil_eq p)
 | x :: xs,[],_,_,p=>by have:=p.length_eq;simp at this
 | x :: xs,y :: ys,ha,hb,p=>by
  unfold Asc at ha hb
  rw [List.pairwise_cons] at ha hb
  have e:x=y:=by
   have hx:x∈y :: ys:=p.mem_iff.mp List.mem_cons_self
   have hy:y∈x :: xs:=p.mem_iff.mpr List.mem_cons_self
   rcases List.mem_cons.mp hx with h|h
   ·exact h
   rcases List.mem_cons.mp hy with h'|h'
   ·exact h'.symm
   ·exact Aas (hb.1 x h) (ha.1 y h') |>.symm ▸ rfl
  subst e
  rw [R4 ha.2 hb.2 (List.Perm.cons_inv p)]
theorem V9 {a b:List (List Int)}(ha:Asc a) (p:a.Perm b):a=Nj b:=R4 ha (V1 b) (p.trans (Sg b).symm)
section
variable {X:Cx}
def TupAt (H:Hp) (y:V) (k:List Int):Prop:=∃ a,y=.ref a/\H a=some (.tup (k.map V.int))
def Adu (K:PySem.W.Frag):List V->Hp->VK->Prop:=λ xs H Q=>∃ (p:Addr) (ys:List V) (ks:List (List Int)),xs=[.ref p]/\SqL K H p ys/\Paired (TupAt H) ys ks/\(∀ k∈ks,k≠[])/\ks.length<64 ∧
 ∀ l outs,H l=none->(∀ o∈outs,o∈ys)->Paired (TupAt H) outs (Nj ks)->Q (.ref l) (upd H l (.lst outs))
theorem Gg {α β:Type}{F:α->β->Prop}:∀ {xs:List α}{ys:List β},Paired F xs ys->∀ (i:Nat) (x:α),xs[i]?=some x->∃ y,ys[i]?=some y/\F x y
 | _,_,.nil,i,x,h=>by simp at h
 | _,_,.cons r t,0,x,h=>by simp at h;subst h;exact⟨_,rfl,r⟩
 | _,_,.cons r t,i+1,x,h=>by
  obtain⟨y,e,f⟩:=Gg t i x (by simpa using h)
  exact⟨y,by simpa using e,f⟩
theorem Mx {α β:Type}{F:α->β->Prop}(xs:List α) (ys:List β) (dx:α) (dy:β) (h:Paired F xs ys):∀ (p:List Nat),(∀ i∈p,i<xs.length)->Paired F (p.map λ i=>xs.getD i dx) (p.map λ i=>ys.getD i dy)
 | [],_=>.nil
 | i :: r,hp=>by
  have hi:=hp i List.mem_cons_self
  obtain⟨y,e,f⟩:=Gg h i xs[i] (by simp [hi])
  refine .cons ?_ (Mx xs ys dx dy h r λ j hj=>hp j (List.mem_cons_of_mem _ hj))
  dsimp only
  rw [List.getD_eq_getElem?_getD,List.getD_eq_getElem?_getD,e,List.getElem?_eq_getElem hi]
  exact f
theorem intItems {pins:List (Addr × Obj)}{σ:St}{H:Hp}{s:Shared}{y:V}{u:Value}{k:List Int}(I:Inv X pins σ H s) (h:TupAt H y k) (r:RelV y u):∃ a its,u=.ref a/\H a=some (.tup (k.map V.int))/\IsTup s.heap a its.toArray/\IntsAre its k:=by
 obtain⟨a,rfl,ha⟩:=h
 cases r
 obtain⟨its,rv,ht,hz⟩:=I.tuple (SqT.of ha)
 exact⟨a,its,rfl,ha,ht,intsAre_of rv⟩
theorem Aju {prog:Program}{w:World}{A:Around}{s:Shared}{Q:Bool->Shared->Prop}:∀ (us us':List Value) (k k':List Int) (i:Nat),IntsAre us k->IntsAre us' k'->Q (HT.lexLt k k') s->∀ n n':Nat,n+k'.length=n'+k.length->KatLex prog w A true (decide (n<n')) Q (us.zip us') i s
 | [],us',k,k',i,h,h',hq,n,n',e=>by
  cases h
  rw [List.zip_nil_left]
  refine kat_nil ?_
  cases h' with
  | nil=>simp only [List.length_nil] at e;rw [HT.lexLt_nil_nil] at hq;rw [decide_eq_false (by omega)];exact hq
  | cons c u hw=>simp only [List.length_nil,List.length_cons] at e;rw [HT.lexLt_nil_cons] at hq;rw [decide_eq_true (by omega)];exact hq
 | u :: us,[],k,k',i,h,h',hq,n,n',e=>by
  cases h'
  rw [List.zip_nil_right]
  refine kat_nil ?_
  cases h with
  | cons c t hw=>simp only [List.length_nil,List.length_cons] at e;rw [HT.lexLt_cons_nil] at hq;rw [decide_eq_false (by omega)];exact hq
 | u :: us,u' :: us',k,k',i,h,h',hq,n,n',e=>by
  cases h with
  | cons c t hw =>
   cases h' with
   | cons c' t' hw' =>
    rw [List.zip_cons_cons]
    rw [HT.lexLt_cons] at hq
    refine kat_cons (SeqAt.EqAt.int_int c t c' t' prog w _ _ ?_)
    by_cases ec:c=c'
    ·rw [if_pos ec] at hq
     rw [beq_iff_eq.mpr ec]
     exact kat_yes (Aju us us' _ _ (i+1) hw hw' hq n n' (by simp only [List.length_cons] at e;omega))
    ·rw [if_neg ec] at hq
     rw [beq_eq_false_iff_ne.mpr ec]
     refine kat_no ?_
     by_cases hi:i=0
     ·subst hi;exact oneLt_int hq
     ·have:(true && i == 0)=false:=by simp [hi]
      rw [this]
      exact kat_one _ _ (PyProof.Rows.lt_int hq)
theorem R9 {pins:List (Addr × Obj)}{σ:St}{H:Hp}{s:Shared}(I:Inv X pins σ H s) {h:Heap}(keep:∀ b o u,H b=some u->s.heap.get? b=some o->h.get? b=some o):∀ {ys:List V}{us:List Value}{ks:List (List Int)},Paired (TupAt H) ys ks->Vals ys us->(∀ k∈ks,k≠[]) →
  ∃ fs:List Value,KatTups h us fs/\fs.length=us.length/\∀ f∈fs,∃ i t,f=.int i t
 | _,_,_,.nil,.nil,_=>⟨[],KatTups.nil,rfl,λ f hf=>by simp at hf⟩
 | _,_,_,.cons t r,.cons v q,ne=>by
  obtain⟨fs,h1,h2,h3⟩:=R9 I keep r q λ k hk=>ne k (List.mem_cons_of_mem _ hk)
  obtain⟨a,its,rfl,hH,⟨o,e,c,n,d⟩,hi⟩:=intItems I t v
  cases hi with
  | nil=>exact absurd rfl (ne _ List.mem_cons_self)
  | cons i tk hw =>
   refine⟨.int i tk :: fs,KatTups.cons (keep _ _ _ hH e) c d (by simp) h1,by simp [h2],λ f hf=>?_⟩
   rcases List.mem_cons.mp hf with rfl|hf
   ·exact⟨i,tk,rfl⟩
   ·exact h3 f hf
theorem Od {P:Program}{w:World}{H:Hp}{h:Heap}{a:Addr}{o:HO}(x:Ea P w H h a o):∃ ob,h.get? a=some ob:=by
 cases o with
 | lst xs=>obtain⟨_,_,_,_,e⟩:=x;exact⟨_,e⟩
 | tup xs=>obtain⟨_,_,_,ob,e,_⟩:=x;exact⟨_,e⟩
 | dK kvs=>obtain⟨_,_,_,_,o,_,_,e,_⟩:=x;exact⟨_,e⟩
 | dT kvs=>obtain⟨_,_,_,_,o,_,_,e,_⟩:=x;exact⟨_,e⟩
 | set S n=>obtain⟨o,_,_,_,e,_⟩:=x;exact⟨_,e⟩
 | ins C dx fs=>obtain⟨_,_,_,e,_⟩:=x;exact⟨_,e⟩
 | own y=>obtain⟨_,e⟩:=x;exact⟨_,e⟩
 | xd fs=>obtain⟨_,⟨_,_,_,e,_⟩,_⟩:=x;exact⟨_,e⟩
 | rng lo hi=>obtain⟨_,_,_,e⟩:=x;exact⟨_,e⟩
 | frz ob u=>obtain⟨e,_⟩:=x;exact⟨_,e⟩
 | tbl ps=>exact⟨_,(show h.get? a=some _ from x)⟩
 | met f y=>exact⟨_,(show h.get? a=some _ from x)⟩
 | ext φ=>obtain⟨_,⟨_,e⟩,_⟩:=x;exact⟨_,e⟩
theorem Acf {pins:List (Addr × Obj)}{σ:St}{H:Hp}{s s':Shared}{m:Str->Option Value}{D:Addr}{o:HO}(I:Inv X pins σ H s) (F:Fr X.base X.env.locals s.heap m) (F':Fr X.base X.env.locals s'.heap m)
  (keep:∀ b o,b≠X.env.locals->s.heap.get? b=some o->s'.heap.get? b=some o) (nD:s.heap.get? D=none) (new:Ea X.prog X.w (upd H D o) s'.heap D o) (os:s'.os=s.os) (bare:AllBare s'.gens):Inv X pins σ (upd H D o) s':=by
 obtain⟨h',g',d',t',o'⟩:=s'
 have e:o'=s.os:=os
 subst e
 have neD:∀ b ob,s.heap.get? b=some ob->b≠D:=λ b ob e z=>by subst z;rw [nD] at e;cases e
 have hD:H D=none:=by
  cases q:H D with
  | none=>rfl
  | some u=>obtain⟨ob,e⟩:=Od (I.hok D u q);rw [nD] at e;cases e
 have neL:∀ b u,H b=some u->b≠X.env.locals:=λ b u e z=>by rw [z,I.free] at e;cases e
 refine I.step (g':=g') (d':=d') (t':=t') (ch:=[]) (λ b hb=>by simp at hb) (λ b ob hL _ _ e _=>keep b ob hL e) (λ b ob hL _ _ e _=>⟨ob.slots,keep b ob hL e⟩) (λ b ob _ e n=>by rw [Al (neD b ob e)];exact n)
  (λ b ob _ e=>?_) (λ b xs e=>by rw [Al (Bd e hD)];exact e) (λ b u xs e=>by rw [Al (Bd e hD)];exact e) (λ b ps e=>⟨#[],by rw [Al (Bd e hD),e];simp⟩) (λ m' hm=>?_) (λ b u e=>?_) bare
 ·by_cases hb:b=X.env.locals
  ·obtain⟨ob',_,_,e',_⟩:=F'.ns
   exact⟨ob',by rw [hb];exact e'⟩
  ·exact⟨ob,keep b ob hb e⟩
 ·have:m'=m:=by
   obtain⟨o1,es1,ep1,a1,a2,a3,a4⟩:=hm
   obtain⟨o2,es2,ep2,b1,b2,b3,b4⟩:=F.ns
   rw [a1] at b1;cases b1
   rw [a2] at b2;cases b2
   funext x;rw [<-a4 x,<-b4 x]
  rw [this];exact F'.ns
 ·by_cases hb:b=D
  ·subst hb;rw [Aj] at e;cases e;exact new
  ·rw [Al hb] at e
   refine (I.hok b u e).stay (λ c v hc q=>keep c v ?_ q) (λ c q=>by rw [Al (Bd q hD)];exact q) λ c xs q=>by rw [Al (Bd q hD)];exact q
   rcases hc with z|z
   ·rw [z];exact neL b u e
   ·exact neL c _ z
theorem Adv {A:Around}{pins:List (Addr × Obj)}{σ:St}{H:Hp}{s:Shared}{m:Str->Option Value}{ys:List V}{its:List Value}{ks:List (List Int)}{D:Addr}{e1:Nat}{h':Heap}{tk0:Nat}{Q:VK}(I:Inv X pins σ H s) (F:Fr X.base X.env.locals s.heap m)
  (pk:Paired (TupAt H) ys ks) (rv:Vals ys its) (ne:∀ k∈ks,k≠[]) (h2:2<=its.length) (h64:its.length<64) (F':Fr X.base X.env.locals h' m) (N':News X.base X.env.locals h' ((D,seqObj "list" #[] e1) :: Jf X.base s.heap X.env.locals)) (above:∀ q∈Jf X.base s.heap X.env.locals,q.1<D)
  (q:∀ outs,H D=none->(∀ o∈outs,o∈ys)->Paired (TupAt H) outs (Nj ks)->Q (.ref D) (upd H D (.lst outs))) :
  wpAny (model X.prog X.w) A (keyKind' its.toArray) (λ κ s'=>(kas_sort its.length).kasWp (kas_ask X.prog X.w A κ its) (λ p s''=>KasFin X.base X.env.locals m D e1 (p.toList.map λ i=>its.getD i Value.none) (λ s3=>EP X pins σ Q (.ref D) s3) s'') s') (λ _ _=>False) { s with heap:=h',toks:=tk0 }:=by
  have l1:its.length=ks.length:=by rw [<-rv.length];exact Paired.length pk
  have keepL:∀ {h2:Heap},Fr X.base X.env.locals h2 m->(∀ q∈Jf X.base s.heap X.env.locals,h2.get? q.1=some q.2)->∀ b o,b≠X.env.locals->s.heap.get? b=some o->h2.get? b=some o:=λ {h2} F2 N2 b o hb e=>by
   cases g:X.base.get? b with
   | some o'=>have:=I.bk b o' g;rw [e] at this;cases this;exact F2.keep b _ g
   | none=>exact N2 (b,o) (O9 hb g e)
  have keep:=keepL F' λ q hq=>(N' q (List.mem_cons_of_mem _ hq)).1
  have nD:s.heap.get? D=none:=by
   cases e:s.heap.get? D with
   | none=>rfl
   | some o =>
    have hn:=N' (D,seqObj "list" #[] e1) List.mem_cons_self
    exact absurd (above (D,o) (O9 hn.2.1 hn.2.2 e)) (Nat.lt_irrefl _)
  have neL:∀ b u,H b=some u->b≠X.env.locals:=λ b u e z=>by rw [z,I.free] at e;cases e
  obtain⟨fs,kt,lf,fi⟩:=R9 I (h:=h') (λ b o u hu e=>keep b o (neL b u hu) e) pk rv ne
  refine kat_kind (T:=.type "int") kt (by omega) (λ v hv=>by obtain⟨i,t,rfl⟩:=fi v hv;exact Looks.of_pure rfl) (by first|rfl|decide) ?_
  have L:LtOk λ i j=>HT.lexLt (ks.getD i []) (ks.getD j []):=⟨λ a=>W5 _,λ h1 h2=>Um h1 h2,λ h=>Ue h⟩
  refine Ajb (lt:=λ i j=>HT.lexLt (ks.getD i []) (ks.getD j [])) (n:=its.length) (P:=λ q=>Pm its.length q/\Sd (λ i j=>HT.lexLt (ks.getD i []) (ks.getD j [])) q its.length) (λ i j C hi hj hC=>?_) (λ pm ⟨hpm,hsd⟩=>?_) (Ald L (by omega))
  ·-- a question
   have at':∀ i,i<its.length->∃ a ws,its.getD i .none=.ref a/\IsTup h' a ws.toArray/\IntsAre ws (ks.getD i []):=λ i hi=>by
    have hyl:i<ys.length:=by rw [rv.length];exact hi
    obtain⟨k,ek,tk⟩:=Gg pk i (ys[i]'hyl) (by simp [hyl])
    obtain⟨u,eu,ru⟩:=rv.get (i:=i) (x:=ys[i]'hyl) (by simp [hyl])
    obtain⟨a,ws,e1,hH,⟨o,g1,g2,g3⟩,g4⟩:=intItems I tk ru
    refine⟨a,ws,by rw [List.getD_eq_getElem?_getD,eu,e1];rfl,⟨o,keep _ _ (neL _ _ hH) g1,g2,g3⟩,by rw [List.getD_eq_getElem?_getD,ek];exact g4⟩
   obtain⟨a,ws,e1,⟨o,g1,g2,n,g3⟩,g4⟩:=at' i hi
   obtain⟨a',ws',e1',⟨o',g1',g2',n',g3'⟩,g4'⟩:=at' j hj
   unfold kas_ask
   rw [e1,e1']
   have la:=g4.length
   have la':=g4'.length
   refine kat_lt g1 g3 g1' g3' ?_
   exact Aju ws ws' _ _ 0 g4 g4' hC _ _ (by simp only [List.size_toArray];omega)
  ·-- the end
   have hpl:∀ i∈pm.toList,i<its.length:=λ i hi=>by
    have:i∈pm:=by simpa using hi
    have:=(hpm.mem_iff).mp this
    simpa using this
   have hys:ys.length=its.length:=rv.length
   have outs:=Mx ys ks .non [] pk pm.toList λ i hi=>by rw [hys];exact hpl i hi
   have outsV:Vals (pm.toList.map λ i=>ys.getD i .non) (pm.toList.map λ i=>its.getD i Value.none):=Mx ys its .non .none rv pm.toList λ i hi=>by rw [hys];exact hpl i hi
   have esort:(pm.toList.map λ i=>ks.getD i [])=Nj ks:=by
    refine V9 ?_ ?_
    ·unfold Asc
     rw [List.pairwise_iff_getElem]
     intro i j hi hj hij
     simp only [List.length_map,Array.length_toList] at hi hj
     have hsz:=hpm.size
     have:=hsd i j (by omega) (by omega)
     simpa [Array.getD,hi,hj] using this
    ·have hp2:pm.toList.Perm (List.range its.length):=by simpa using Array.perm_iff_toList_perm.mp hpm
     have e2:(List.range its.length).map (λ i=>ks.getD i [])=ks:=by rw [l1];exact range_getD ks []
     have:=hp2.map (λ i=>ks.getD i [])
     rw [e2] at this
     exact this
   rw [esort] at outs
   refine KasFin.intro (g:=λ o=>(D,o) :: Jf X.base s.heap X.env.locals) F' N' ?_ λ h2 c F2 N2=>?_
   ·exact UpdF.head λ p hp=>Nat.ne_of_lt (above p hp)
   ·have hD2:=(N2 (D,listOf (List.toArray (pm.toList.map λ i=>its.getD i Value.none)) c) List.mem_cons_self).1
    have I':Inv X pins σ (upd H D (.lst (pm.toList.map λ i=>ys.getD i .non))) { s with heap:=h2,toks:=tk0 }:=Acf (s':={ s with heap:=h2,toks:=tk0 }) I F F2 (keepL F2 λ q hq=>(N2 q (List.mem_cons_of_mem _ hq)).1) nD
     ⟨by rw [List.length_map,Array.length_toList,hpm.size,sizeLine_eq];omega,_,c,outsV,hD2⟩ rfl I.bare
    have nH:H D=none:=by
     cases z:H D with
     | none=>rfl
     | some u=>obtain⟨ob,e⟩:=Od (I.hok D u z);rw [nD] at e;cases e
    exact⟨.ref D,_,I',rfl,q _ nH (λ o ho=>by
     obtain⟨i,hi,rfl⟩:=List.mem_map.mp ho
     have hi':i<ys.length:=by rw [hys];exact hpl i hi
     rw [List.getD_eq_getElem?_getD,List.getElem?_eq_getElem hi']
     exact List.getElem_mem hi') outs⟩
theorem X5:Fy X (.builtin "sorted") (Adu X.K):=by
 intro pins s σ H xs us Q I r h
 obtain⟨p,ys,ks,rfl,hp,pk,ne,h64,q⟩:=h
 obtain⟨u,rfl,ru⟩:=vals1 r
 cases ru
 obtain⟨its,rv,pl,hz⟩:=I.list hp
 have l1:its.length=ks.length:=by rw [<-rv.length];exact Paired.length pk
 by_cases h2:its.length<2
 ·refine Vi pl.isList h2 ?_
  obtain⟨e,hat⟩:=sortedAll_at s.heap its its.toArray
  have hs:Paired (TupAt H) ys (Nj ks):=by
   have:Nj ks=ks:=by
    match ks,l1 ▸ h2 with
    | [],_=>rfl
    | [_],_=>rfl
   rw [this];exact pk
  refine⟨.ref (s.heap.objs.size+1),_,I.laid (a:=s.heap.objs.size+1) (o:=.lst ys) (t':=s.toks) (λ b o e=>sortedAll_old e) (Nat.le_succ _) ⟨hz,its,e,rv,hat⟩,rfl,q _ ys (I.hok.fresh (Nat.le_succ _)) (λ _ h=>h) hs⟩
 ·obtain⟨m,F⟩:=I.fr
  have N:News X.base X.env.locals s.heap (Jf X.base s.heap X.env.locals):=Ah3
  refine kat_sorted F N pl.isList (by omega) (by omega) λ D e1 h' F' N' above=>?_
  exact Adv I F pk rv ne (by omega) (by omega) F' N' above λ outs hD ho po=>q D outs hD ho po
end
def U6 (h:Heap) (d:Addr) (es:Array DictEntry) (ep:Nat):Prop:=∃ o,h.get? d=some o/\o.ExactDict/\o.data=.dict es ep
section
variable {prog:Program}{w:World}{A:Around}{E:Value->Shared->Prop}{s:Shared}{d it:Addr}{es:Array DictEntry}{ep:Nat}
theorem U6.type (x:U6 s.heap d es ep):s.TypeIs (.ref d) "dict":=by obtain⟨o,h1,h2,_⟩:=x;exact⟨o,h1,h2.1⟩
theorem U6.at {h h':Heap}(x:U6 h d es ep) (e:∀ o,h.get? d=some o->h'.get? d=some o):U6 h' d es ep:=by obtain⟨o,h1,r⟩:=x;exact⟨o,e o h1,r⟩
theorem Agp {Q:Value->Shared->Prop}(hd:(d == sysModules)=false) (x:U6 s.heap d es ep)
  (q:Q (.ref s.heap.objs.size) { s with heap:=s.heap.push { cls:=.type "dict_keyiterator",data:=.fields #[.ref d,.int 0 0,.int es.size 0,.int ep 0] } }):wpAny (model prog w) A (pyIter (.ref d)) Q E s:=by
 have hT:=x.type
 obtain⟨o,ho,hc,hdat⟩:=x
 refine wpAny_pyIter_slot hT F.slot_dict_iter (wpAny_call_entry F.slot_dict_iter hT F.entry_dict_iter ?_ (F.args_dict_iter_1 _))
 unfold Builtin.«dict.__iter__»
 refine wpAny_bind ?_
 unfold Builtin.Dict.dictSlotNone
 refine wpAny_bind (wpAny_notOrdered_dict hT (show wpAny _ _ (pure (Value.ref d)) _ _ s from wpAny_pure ?_))
 show wpAny _ _ (Builtin.Dict.showsAll d >>= _) _ _ s
 unfold Builtin.Dict.showsAll
 rw [hd,if_neg Bool.false_ne_true]
 refine wpAny_bind (wpAny_pure (wpAny_bind (wpAny_dictEntries ho hdat (wpAny_bind (wpAny_dictEpoch ho hdat ?_)))))
 refine wpAny_bind (wpAny_newObj_type (wpAny_pure ⟨_,rfl,"dict_keyiterator",_,⟨_,Heap.get?_push_size _ rfl,rfl⟩,F.slot_dict_keyiterator_next.lookup,?_⟩))
 simpa [rawInt] using q
theorem Agl {i:Nat}{e:DictEntry}{Q:Option Value->Shared->Prop}(hit:s.heap.IsKeyIter it d i es.size ep) (x:U6 s.heap d es ep) (hx:es[i]?=some e)
  (q:∀ h',h'.IsKeyIter it d (i+1) es.size ep->Heap.SameBut it s.heap h'->Q (some e.key) { s with heap:=h' }):wpAny (model prog w) A (pyNext (.ref it)) Q E s:=by
 obtain⟨o,ho,hc,hd⟩:=id hit
 obtain⟨od,hod,hcd,hdd⟩:=x
 have ht:=hit.typeIs
 unfold pyNext
 refine wpAny_bind (wpAny_attempt (wpAny_callSpecial?_slot (name:=Str.ofString "__next__") ht F.slot_dict_keyiterator_next
  (wpAny_call_entry F.slot_dict_keyiterator_next ht F.entry_dict_keyiterator_next ?_ (F.args_dict_keyiterator_next_1 _))))
 refine wpAny_bind (wpAny_pure (wpAny_bind (wpAny_bind ?_)))
 first|refine wpAny_bind (wpAny_typeNameOfWhole_keyiter ht (wpAny_pure ?_))|refine wpAny_bind (wpAny_typeNameOf_keyiter ht (wpAny_pure ?_))
 refine wpAny_bind (wpAny_fieldsOf ho hd ?_)
 simp only [show Builtin.Dict_items.ownsTuple "dict_keyiterator"=false by decide,Bool.false_eq_true,if_false]
 show wpAny _ _ (if (Value.ref d == Value.none)=true then _ else _) _ _ s
 rw [if_neg (show ¬ ((Value.ref d == Value.none)=true) from Bool.false_ne_true)]
 refine wpAny_bind (wpAny_pure (wpAny_bind (wpAny_dictEntries hod hdd ?_)))
 rw [if_neg (by simp)]
 refine wpAny_bind (wpAny_pure (wpAny_bind (wpAny_dictEpoch hod hdd ?_)))
 rw [if_neg (by simp)]
 refine wpAny_pure ?_
 simp only [show ¬ ((i:Int)<0) from by omega,if_false,Int.toNat_natCast,hx]
 refine wpAny_bind ?_
 first|refine wpAny_bind (wpAny_typeNameOfWhole_keyiter ht (wpAny_pure ?_))|refine wpAny_bind (wpAny_typeNameOf_keyiter ht (wpAny_pure ?_))
 refine wpAny_bind (wpAny_isOneOf_keyiter ht ?_)
 show wpAny _ _ (setField (.ref it) 1 (rawInt ((i:Int)+1)) >>= _) _ _ s
 refine wpAny_bind (wpAny_setField ho hd (by simp) ?_)
 have hit':(s.heap.update it (Obj.mapFields (·.setIfInBounds 1 (rawInt ((i:Int)+1))))).IsKeyIter it d (i+1) es.size ep :=
  ⟨_,Heap.get?_update_self _ ho (Obj.isFreed_of_fields (Obj.data_mapFields hd _)),(Obj.cls_mapFields ..).trans hc,by rw [Obj.data_mapFields hd];simp [rawInt]⟩
 refine wpAny_bind (wpAny_holding (wpAny_bind (wpAny_isOneOf_keyiter (s:={ s with heap:=s.heap.update it (Obj.mapFields (·.setIfInBounds 1 (rawInt ((i:Int)+1)))) }) hit'.typeIs ?_)))
 show wpAny _ _ (pure e.key) _ _ _
 exact wpAny_pure (wpAny_pure ⟨_,rfl,wpAny_pure (q _ hit' (Heap.SameBut.update ..))⟩)
theorem Akq {i:Nat}{Q:Option Value->Shared->Prop}(hh:A.handled=none) (hit:s.heap.IsKeyIter it d i es.size ep) (x:U6 s.heap d es ep) (hx:es[i]?=none) (q:∀ h',Heap.ExtBut it s.heap h'->Q none { s with heap:=h' }):wpAny (model prog w) A (pyNext (.ref it)) Q E s:=by
 obtain⟨o,ho,hc,hd⟩:=id hit
 obtain⟨od,hod,hcd,hdd⟩:=x
 have ht:=hit.typeIs
 unfold pyNext
 refine wpAny_bind (wpAny_attempt (wpAny_callSpecial?_slot (name:=Str.ofString "__next__") ht F.slot_dict_keyiterator_next
  (wpAny_call_entry F.slot_dict_keyiterator_next ht F.entry_dict_keyiterator_next ?_ (F.args_dict_keyiterator_next_1 _))))
 refine wpAny_bind (wpAny_pure (wpAny_bind (wpAny_bind ?_)))
 first|refine wpAny_bind (wpAny_typeNameOfWhole_keyiter ht (wpAny_pure ?_))|refine wpAny_bind (wpAny_typeNameOf_keyiter ht (wpAny_pure ?_))
 refine wpAny_bind (wpAny_fieldsOf ho hd ?_)
 simp only [show Builtin.Dict_items.ownsTuple "dict_keyiterator"=false by decide,Bool.false_eq_true,if_false]
 show wpAny _ _ (if (Value.ref d == Value.none)=true then _ else _) _ _ s
 rw [if_neg (show ¬ ((Value.ref d == Value.none)=true) from Bool.false_ne_true)]
 refine wpAny_bind (wpAny_pure (wpAny_bind (wpAny_dictEntries hod hdd ?_)))
 rw [if_neg (by simp)]
 refine wpAny_bind (wpAny_pure (wpAny_bind (wpAny_dictEpoch hod hdd ?_)))
 rw [if_neg (by simp)]
 refine wpAny_pure ?_
 simp only [show ¬ ((i:Int)<0) from by omega,if_false,Int.toNat_natCast,hx]
 refine wpAny_bind ?_
 first|refine wpAny_bind (wpAny_typeNameOfWhole_keyiter ht (wpAny_pure ?_))|refine wpAny_bind (wpAny_typeNameOf_keyiter ht (wpAny_pure ?_))
 show wpAny _ _ (setField (.ref it) 0 .none >>= _) _ _ s
 refine wpAny_bind (wpAny_setField ho hd (by simp) ?_)
 show wpAny _ _ (newExc (.type "StopIteration") [] >>= _) _ _ _
 refine wpAny_bind ?_
 simp only [newExc,newTuple]
 refine wpAny_bind (wpAny_newObj_type ?_ (by size_fits))
 refine wpAny_bind (m:=firstArgMember _ _) (wpAny_of_eq (a:=Value.none) (by first|rfl|(simp only [firstArgMember];rfl)) (wpAny_newObj_type ?_ (by size_fits)))
 simp only [raiseNew]
 refine wpAny_bind (wpAny_handled ?_)
 rw [show A.in1.handled=none from hh]
 refine wpAny_bind (wpAny_pure (wpAny_throw ?_))
 refine wpAny_bind (wpAny_isInstance (T:="StopIteration") (b:=true) ⟨_,Heap.get?_push_size _ rfl,rfl⟩ isSubtype_stop ?_)
 exact wpAny_pure (q _ (((Heap.SameBut.update ..).extBut.push _).push _))
end
end M
namespace M
open PySem PySem.Spec PyProof.Rows L2
section
variable {X:Cx}{G:Fc}{a b c:Expr}{ma mb mc:EV}{pos:Pos}
theorem hu0 (gd:Gd X):X.A.units<cLine:=by have:=gd.un;omega
theorem hu1 (gd:Gd X):X.A.units+1<cLine:=by have:=gd.un;omega
theorem hu4 (gd:Gd X):X.A.units+4<cLine:=by have:=gd.un;omega
theorem K4 {G G':Fc}(e:G'.xc=G.xc) (hx:∀ c,¬ G.xc c):∀ c,¬ G'.xc c:=by rw [e];exact hx
theorem Du {scope:Scope}{s3:Shared}{H3:Hp}{fp:List Addr}{C:Addr}(gd:Gd X):Gd (cxc X scope s3 H3 fp C):=⟨gd.calm,PassesOwn.never,gd.nd,gd.un⟩
theorem Bj (ha:SE X G a ma) (hb:SE X G b mb):SF X G (.BinOp a .Add b pos) (e2 Ew ma mb):=Pk Amh An0 ha hb
theorem Dq (ha:SE X G a ma) (hb:SE X G b mb):SF X G (.BinOp a .Sub b pos) (e2 Lw ma mb):=Pk W9 Aqi ha hb
theorem Ajk (ha:SE X G a ma) (hb:SE X G b mb):SF X G (.BinOp a .Mult b pos) (e2 Am8 ma mb):=Pk Aiv An7 ha hb
theorem Aaw (ha:SE X G a ma) (hb:SE X G b mb):SF X G (.BinOp a .FloorDiv b pos) (e2 Aix ma mb):=Pk Al6 Aox ha hb
theorem Ej (ha:SE X G a ma) (hb:SE X G b mb):SF X G (.BinOp a .Mod b pos) (e2 Nb ma mb):=Pk Aok Apa ha hb
theorem Ao1 (ha:SE X G a ma) (hb:SE X G b mb):SF X G (.BinOp a .Pow b pos) (e2 Apv ma mb):=Pk Aqm Apu ha hb
theorem Bs (ha:SE X G a ma) (hb:SE X G b mb) (hs:Tr b:=by intro _ _;rfl):SF X G (.Subscript a b pos) (e2 fIx ma mb):=Asn hs Ao3 Asi ha hb
theorem Ag7 (gd:Gd X) (ha:SE X G a ma) (hb:SE X G b mb) (hs:Arc b:=by intro _ _;rfl):SF X G (.Subscript a b pos) (e2 Xl ma mb):=Ake (hu1 gd) ha hb hs
theorem Ase (gd:Gd X) (ha:SE X G a ma) (hb:SE X G b mb):SF X G (.Compare a [.Lt] [b] pos) (e2 fLt ma mb):=Wh (Ajv (hu0 gd)) Aqq ha hb (Gm _)
theorem Atb (gd:Gd X) (ha:SE X G a ma) (hb:SE X G b mb):SF X G (.Compare a [.Gt] [b] pos) (e2 fGt ma mb):=Wh Aqx Aqh ha hb (Gm _)
theorem Abt (gd:Gd X) (ha:SE X G a ma) (hb:SE X G b mb):SF X G (.Compare a [.Eq] [b] pos) (e2 fEq ma mb):=Wh (Ai6 (hu4 gd)) Aog ha hb (Gm _)
theorem Auc (gd:Gd X) (ha:SE X G a ma) (hb:SE X G b mb):SF X G (.Compare a [.NotEq] [b] pos) (e2 fNe ma mb):=Wh (Ai8 (hu4 gd)) Ao5 ha hb (Gm _)
theorem Aqd (gd:Gd X) (ha:SE X G a ma) (hb:SE X G b mb) (hm:behindInMarks .In b=false:=by with_unfolding_all rfl):SF X G (.Compare a [.In] [b] pos) (e2 fIn ma mb):=Wh (Ajj (hu4 gd)) Ara ha hb hm
theorem Ap5 (gd:Gd X) (ha:SE X G a ma) (hb:SE X G b mb):ST X G (.Compare a [.Lt] [b] pos) (Ce (e2 fLt ma mb)):=P0 (Ajv (hu0 gd)) Aqq ha hb (Gm _)
theorem Akw (gd:Gd X) (ha:SE X G a ma) (hb:SE X G b mb):ST X G (.Compare a [.Gt] [b] pos) (Ce (e2 fGt ma mb)):=P0 Aqx Aqh ha hb (Gm _)
theorem At5 (gd:Gd X) (ha:SE X G a ma) (hb:SE X G b mb):ST X G (.Compare a [.GtE] [b] pos) (Ce (e2 fGe ma mb)):=P0 (Ank (hu0 gd)) As9 ha hb (Gm _)
theorem Dt (gd:Gd X) (ha:SE X G a ma) (hb:SE X G b mb):ST X G (.Compare a [.Eq] [b] pos) (Ce (e2 fEq ma mb)):=P0 (Ai6 (hu4 gd)) Aog ha hb (Gm _)
theorem Aos (gd:Gd X) (ha:SE X G a ma) (hb:SE X G b mb):ST X G (.Compare a [.NotEq] [b] pos) (Ce (e2 fNe ma mb)):=P0 (Ai8 (hu4 gd)) Ao5 ha hb (Gm _)
theorem Anf (gd:Gd X) (ha:SE X G a ma) (hb:SE X G b mb) (hm:behindInMarks .In b=false:=by with_unfolding_all rfl):ST X G (.Compare a [.In] [b] pos) (Ce (e2 fIn ma mb)):=P0 (Ajj (hu4 gd)) Ara ha hb hm
theorem Ah5 (gd:Gd X) (ha:SE X G a ma) (hb:SE X G b mb) (hm:behindInMarks .NotIn b=false:=by with_unfolding_all rfl):ST X G (.Compare a [.NotIn] [b] pos) (Ce (e2 Rw ma mb)):=P0 (Ae2 (hu4 gd)) Ahe ha hb hm
noncomputable def RdF (X:Cx) (G:Fc) (m:EV):TE:=λ σ H Q=>∃ E,Rel X.K G E σ H/\Fin (m E) (λ d=>∀ v H',Same H H'->Rp X.K H' (Ow G.pr E σ) d v->Q v H') G.xc
theorem RdF.test {m:EV}{σ:St}{H:Hp}{Q:Bool->Hp->Prop}(h:∃ E,Rel X.K G E σ H/\Fin (Ce m E) (λ b=>∀ H',Same H H'->Q b H') G.xc):RdF X G m σ H λ x H1=>∃ k,x=.bl k/\Q k H1:=by
 obtain⟨E,hr,f⟩:=h
 refine⟨E,hr,(Fin.bind f).mono λ d p v H' s z=>?_⟩
 cases d with
 | bl k=>exact⟨k,z,p H' s⟩
 | _=>exact p.elim
theorem Am0 {m:EV}{mi mo:EV}(hm:m=e2 Age mi mo) (σ:St) (H:Hp) (Q:VK) (h:RdF X G m σ H Q) :
  Aur (λ σ H Q=>∃ E,Rel X.K G E σ H/\Fin (mi E) (λ d=>∀ v H',Same H H'->Rt X.K H' (Ow G.pr E σ) d v->Q v H') G.xc) (λ σ H Q=>∃ E,Rel X.K G E σ H/\Fin (mo E) (λ d=>∀ v H',Same H H'->Rt X.K H' (Ow G.pr E σ) d v->Q v H') G.xc) σ H Q:=by
 subst hm
 obtain⟨E,hr,f⟩:=h
 refine⟨E,hr,(Fin.bind f).mono λ dx fx v H1 s1 p1=>⟨E,hr.same s1,(Fin.bind fx).mono λ dy fy w H2 s2 p2=>?_⟩⟩
 obtain⟨d,e,p⟩:=Fin.of fy
 cases dy with
 | dic kvs =>
  simp only [Age,Option.map_eq_some_iff] at e
  obtain⟨ks,e1,rfl⟩:=e
  obtain⟨b,rfl,hb⟩:=Iv e1 (p1.mono s2 λ _ z=>z)
  obtain⟨a,ws,rfl,ha,rk⟩:=p2.dic
  obtain⟨o,g1,g2⟩:=Xw rk ha hb
  refine⟨a,o,rfl,g1,?_⟩
  rw [g2]
  exact p _ H2 (s1.trans s2) (by unfold Rp;rfl)
 | _=>cases e
theorem Abr {m:EV}{mi mo:EV}(hm:m=e2 Je mi mo) (σ:St) (H:Hp) (Q:VK) (h:RdF X G m σ H Q) :
  Yz (λ σ H Q=>∃ E,Rel X.K G E σ H/\Fin (mi E) (λ d=>∀ v H',Same H H'->Rt X.K H' (Ow G.pr E σ) d v->Q v H') G.xc) (λ σ H Q=>∃ E,Rel X.K G E σ H/\Fin (mo E) (λ d=>∀ v H',Same H H'->Rt X.K H' (Ow G.pr E σ) d v->Q v H') G.xc) σ H Q:=by
 subst hm
 obtain⟨E,hr,f⟩:=h
 refine⟨E,hr,(Fin.bind f).mono λ dx fx v H1 s1 p1=>⟨E,hr.same s1,(Fin.bind fx).mono λ dy fy w H2 s2 p2=>?_⟩⟩
 obtain⟨d,e,p⟩:=Fin.of fy
 cases dy with
 | dic kvs =>
  simp only [Je,Option.map_eq_some_iff] at e
  obtain⟨ks,e1,rfl⟩:=e
  obtain⟨b,rfl,hb⟩:=Iv e1 (p1.mono s2 λ _ z=>z)
  obtain⟨a,ws,rfl,ha,rk⟩:=p2.dic
  obtain⟨o,g1,g2⟩:=Xw rk ha hb
  refine⟨a,o,rfl,g1,?_⟩
  rw [g2]
  exact p _ H2 (s1.trans s2) (by unfold Rp;rfl)
 | _=>cases e
theorem Alv (gd:Gd X) (ha:SE X G a ma) (hb:SE X G b mb) (hm:behindInMarks .In b=false:=by with_unfolding_all rfl):SF X G (.Compare a [.In] [b] pos) (e2 Age ma mb):=An6 (hu1 gd) ha hb hm
theorem Apj (gd:Gd X) (ha:SE X G a ma) (hb:SE X G b mb) (hm:behindInMarks .In b=false:=by with_unfolding_all rfl):ST X G (.Compare a [.In] [b] pos) (Ce (e2 Age ma mb)) :=
 (R8 (Aja (hu1 gd) ha hb) hm).imp λ σ H Q h=>Am0 rfl σ H _ (RdF.test h)
theorem Lx (gd:Gd X) (ha:SE X G a ma) (hb:SE X G b mb) (hm:behindInMarks .NotIn b=false:=by with_unfolding_all rfl):ST X G (.Compare a [.NotIn] [b] pos) (Ce (e2 Je ma mb)) :=
 (R8 (Ql (hu1 gd) ha hb) hm).imp λ σ H Q h=>Abr rfl σ H _ (RdF.test h)
noncomputable def Abi:D->Option D
 | .int i=>some (.int (-i))
 | _=>none
theorem J1 (ha:SE X G a ma):SF X G (.UnaryOp .USub a pos) (e1 Abi ma) :=
 (Amv Ad3 ha).imp λ σ H Q z0=>z0.elim λ E z0=>z0.elim λ hr f=>⟨E,hr,(Fin.bind f).mono λ d p v H' s z=>by
  obtain⟨e,h1,q⟩:=Fin.of p
  cases d with
  | int i=>cases h1;exact⟨i,z.int,q _ H' s (by unfold Rp;rfl)⟩
  | _=>cases h1⟩
noncomputable def eCh (f g:D->D->Option D) (ma mb mc:EV):EV:=λ E=>ma E >>= λ x=>mb E >>= λ y=>ofO (f x y) >>= λ t=>match t with
 | .bl true=>mc E >>= λ z=>ofO (g y z)
 | .bl false=>.ok (.bl false)
 | _=>.no
structure ChOk (X:Cx) (op:CmpOp) (r:R2) (f:D->D->Option D):Prop where
 o:OpR X (compareOp op) r
 d:OpD X.K r f
theorem Ayn:ChOk X .Lt (rI0 λ i j=>.bl (decide (i<j))) (λ x y=>match x,y with|.int i,.int j=>some (.bl (decide (i<j)))|_,_=>none):=⟨Aex,Qm (g:=λ i j=>.bl (decide (i<j))) (λ dx dy d e=>by
 cases dx with
 | int i=>cases dy with
  | int j=>cases e;exact⟨i,j,rfl,rfl,rfl⟩
  | _=>cases e
 | _=>cases e) λ i j H O=>by unfold Rp;rfl⟩
theorem Ap6:ChOk X .LtE (rI0 λ i j=>.bl (decide (i<=j))) fLe:=⟨Aq2,Atq⟩
noncomputable def Anb:D->D->Option D
 | .int i,.int j=>some (.bl (decide (i<j)))
 | _,_=>none
theorem Z0:ChOk X .Lt (rI0 λ i j=>.bl (decide (i<j))) Anb:=⟨Aex,Qm (g:=λ i j=>.bl (decide (i<j))) (λ dx dy d e=>by
 cases dx with
 | int i=>cases dy with
  | int j=>cases e;exact⟨i,j,rfl,rfl,rfl⟩
  | _=>cases e
 | _=>cases e) λ i j H O=>by unfold Rp;rfl⟩
theorem Ai1 {r r':R2}{f g:D->D->Option D}(hf:OpD X.K r f) (hg:OpD X.K r' g) (σ:St) (H:Hp) (Q:VK) (h:RdF X G (eCh f g ma mb mc) σ H Q) :
  Aac r r' (λ σ H Q=>∃ E,Rel X.K G E σ H/\Fin (ma E) (λ d=>∀ v H',Same H H'->Rt X.K H' (Ow G.pr E σ) d v->Q v H') G.xc)
   (λ σ H Q=>∃ E,Rel X.K G E σ H/\Fin (mb E) (λ d=>∀ v H',Same H H'->Rt X.K H' (Ow G.pr E σ) d v->Q v H') G.xc)
   (λ σ H Q=>∃ E,Rel X.K G E σ H/\Fin (mc E) (λ d=>∀ v H',Same H H'->Rt X.K H' (Ow G.pr E σ) d v->Q v H') G.xc) σ H Q:=by
 obtain⟨E,hr,f0⟩:=h
 refine⟨E,hr,(Fin.bind f0).mono λ dx fx v H1 s1 p1=>⟨E,hr.same s1,(Fin.bind fx).mono λ dy fy w H2 s2 p2=>?_⟩⟩
 have ft:=Fin.bind fy
 obtain⟨d,e,p⟩:=Fin.of ft
 refine hf H2 _ dx dy d v w _ (hr.same (s1.trans s2)).sane e (Qa p1 s2) p2 λ u H3 s3 z=>?_
 cases d with
 | bl k =>
  cases k with
  | false=>exact⟨false,z,p _ H3 ((s1.trans s2).trans s3) (by unfold Rp;rfl)⟩
  | true =>
   refine⟨true,z,?_⟩
   rw [if_pos rfl]
   refine⟨E,(hr.same ((s1.trans s2).trans s3)),(Fin.bind p).mono λ dz fz w' H4 s4 p4=>?_⟩
   obtain⟨d',e',p'⟩:=Fin.of fz
   exact hg H4 _ dy dz d' w w' Q (hr.same (((s1.trans s2).trans s3).trans s4)).sane e' (Qa (Qa p2 s3) s4) p4 λ u' H5 s5 z'=>p' u' H5 ((((s1.trans s2).trans s3).trans s4).trans s5) z'
 | _=>exact p.elim
theorem Aol {op op':CmpOp}{r r':R2}{f g:D->D->Option D}(h1:ChOk X op r f) (h2:ChOk X op' r' g) (ha:SE X G a ma) (hb:SE X G b mb) (hc:SE X G c mc) (hm:lastMarks [op,op'] [b,c]=false:=by with_unfolding_all rfl) :
  SF X G (.Compare a [op,op'] [b,c] pos) (eCh f g ma mb mc):=(Agm h1.o h2.o ha hb hc hm).imp λ σ H Q h=>Ai1 h1.d h2.d σ H Q h
theorem At7 {op op':CmpOp}{r r':R2}{f g:D->D->Option D}(h1:ChOk X op r f) (h2:ChOk X op' r' g) (ha:SE X G a ma) (hb:SE X G b mb) (hc:SE X G c mc) (hm:lastMarks [op,op'] [b,c]=false:=by with_unfolding_all rfl) :
  ST X G (.Compare a [op,op'] [b,c] pos) (Ce (eCh f g ma mb mc)):=(Zn h1.o h2.o ha hb hc hm).imp λ σ H Q h=>Ai1 h1.d h2.d σ H _ (RdF.test h)
noncomputable def Arj:D->Option D
 | .non=>some (.bl true)
 | .bl _=>some (.bl false)
 | .int _=>some (.bl false)
 | .str _=>some (.bl false)
 | .tup _=>some (.bl false)
 | .lst _=>some (.bl false)
 | .dic _=>some (.bl false)
 | .scr _=>some (.bl false)
theorem Aqs {K:PySem.W.Frag}{H:Hp}{O:Addr->Prop}{d d':D}{v:V}(e:Arj d=some d') (r:Rt K H O d v):d'=.bl (decide (v=.non)):=by
 cases d with
 | non=>cases e;rw [r.non];rfl
 | bl b=>cases e;rw [r.bl];rfl
 | int b=>cases e;rw [r.int];rfl
 | str b=>cases e;rw [r.str];rfl
 | tup ds=>cases e;obtain⟨a,vs,rfl,_⟩:=r.tup;rfl
 | lst ds=>cases e;obtain⟨a,vs,rfl,_⟩:=r.lst;rfl
 | dic ds=>cases e;obtain⟨a,vs,rfl,_⟩:=r.dic;rfl
 | scr ns =>
  cases e
  rcases r with r|⟨_,_,h⟩
  ·obtain⟨a,rfl,_⟩:=r.scr;rfl
  ·exact h.elim
theorem Akj (σ:St) (H:Hp) (Q:VK) (h:RdF X G (e1 Arj ma) σ H Q):Asd (λ σ H Q=>∃ E,Rel X.K G E σ H/\Fin (ma E) (λ d=>∀ v H',Same H H'->Rt X.K H' (Ow G.pr E σ) d v->Q v H') G.xc) σ H Q:=by
 obtain⟨E,hr,f⟩:=h
 refine⟨E,hr,(Fin.bind f).mono λ d p v H' s z=>?_⟩
 obtain⟨e,h1,q⟩:=Fin.of p
 have:=Aqs h1 z
 subst this
 exact q _ H' s (by unfold Rp;rfl)
theorem Apq {j pos'}(ha:SE X G a ma):ST X G (.Compare a [.Is] [.Constant .none j pos'] pos) (Ce (e1 Arj ma)):=(R8 (Ajw ha)).imp λ σ H Q h=>Akj σ H _ (RdF.test h)
end
section
variable {X:Cx}{G:Fc}{e:Expr}{m:EV}
noncomputable def flat:D->R D
 | .non=>.ok .non
 | .bl b=>.ok (.bl b)
 | .int i=>.ok (.int i)
 | .str s=>.ok (.str s)
 | _=>.no
noncomputable def Acu (i:Nat) (m:EV):EV:=λ E=>m (frz i E) >>= flat
theorem Ah0 (i:Nat) (h:SF X G e m):SF X G e (Acu i m):=by
 rintro pins s σ H Q I ⟨E,hr,f⟩
 have fl:∀ {d:D} {P:D->Prop} {xc:Nat->Prop},Fin (flat d) P xc->P d:=λ {d P xc} p=>by
  cases d<;>first|exact p|exact p.elim
 have fr:∀ {d:D} {v:V} {H H':Hp} {O O':Addr->Prop} {P:D->Prop} {xc:Nat->Prop},Fin (flat d) P xc->Rp X.K H O d v->Rp X.K H' O' d v:=λ {d v H H' O O' P xc} p z=>by
  cases d with
  | non=>unfold Rp at z ⊢;exact z
  | bl b=>unfold Rp at z ⊢;exact z
  | int b=>unfold Rp at z ⊢;exact z
  | str b=>unfold Rp at z ⊢;exact z
  | _=>exact p.elim
 rcases hr.frz (i:=i) with r|⟨a,ws,e,_,r⟩
 ·exact h pins s σ H Q I ⟨frz i E,r,(Fin.bind f).mono λ d p v H' s z=>fl p v H' s (fr p z)⟩
 ·obtain⟨o,I',nf⟩:=tagged I e
  refine Ags h pins s σ _ Q I' ⟨frz i E,r o,(Fin.bind f).mono λ d p v H' s z=>?_⟩
  refine⟨_,.inr ⟨a,o,ws,nf,s _ _ Aj,rfl⟩,fl p v _ (λ b u hb=>?_) (fr p z)⟩
  by_cases hba:b=a
  ·subst hba;rw [e] at hb;cases hb;exact Aj
  ·rw [Al hba];exact s _ _ (by rw [Al hba];exact hb)
end
def Anu (K:PySem.W.Frag) (r:List V->Hp->VK->Prop) (f:D->D->Option D):Prop :=
 ∀ (H:Hp) (O:Addr->Prop) (dx dy d:D) (v w:V) (Q:VK),Sane H O->f dx dy=some d->Rt K H O dx v->Rt K H O dy w->(∀ u H',Same H H'->Rp K H' O d u->Q u H')->r [v,w] H Q
section
variable {X:Cx}{G:Fc}{r:List V->Hp->VK->Prop}{f:D->D->Option D}{x:Str}{p pos:Pos}{a b:Expr}{ma mb:EV}
theorem Px {id:String}(hc:Fy X (.builtin id) r) (hf:Anu X.K r f) (hg:Gl X x) (hm:X.mg x=none) (hv:bootBuiltins x=some (.builtin id)) (ha:SE X G a ma) (hb:SE X G b mb) (hn:x≠"__name__":=by decide) (hdb:(x == ("__debug__":Str))=false:=by decide)
  (hs:starEach [a,b] X.env=(false,eval a X.env) :: starEach [b] X.env:=by rfl) (hs2:starEach [b] X.env=(false,eval b X.env) :: starEach [] X.env:=by rfl) (hpl:(backTo pos (starEach [b] X.env)).any (·.1)=false:=by rfl):SF X G (.Call (.Name x p) [a,b] [] pos) (e2 f ma mb) :=
 (Ls hc hg hm hv (Ak ha (Ak hb Bl hs2) hs) hn hdb hs hpl).imp λ σ H Q z0=>z0.elim λ E z0=>z0.elim λ hr h=>⟨E,hr,(Fin.bind h).mono λ dx fx v H1 s1 p1=>⟨E,hr.same s1,(Fin.bind fx).mono λ dy fy w H2 s2 p2=>by
  obtain⟨d,e,q⟩:=Fin.of fy
  exact hf H2 _ dx dy d v w Q (hr.same (s1.trans s2)).sane e (Qa p1 s2) p2 λ u H' s z=>q u H' ((s1.trans s2).trans s) z⟩⟩
noncomputable def Anj:D->D->Option D
 | .int i,.int j=>some (.int (if j > i then j else i))
 | _,_=>none
noncomputable def Aon:D->D->Option D
 | .int i,.int j=>some (.int (if j<i then j else i))
 | _,_=>none
theorem Ac7 (gd:Gd X) (hg:Gl X "max") (hm:X.mg "max"=none) (ha:SE X G a ma) (hb:SE X G b mb)
  (hs:starEach [a,b] X.env=(false,eval a X.env) :: starEach [b] X.env:=by rfl) (hs2:starEach [b] X.env=(false,eval b X.env) :: starEach [] X.env:=by rfl) (hpl:(backTo pos (starEach [b] X.env)).any (·.1)=false:=by rfl):SF X G (.Call (.Name "max" p) [a,b] [] pos) (e2 Anj ma mb) :=
 Px (Ads gd.calm) (λ H O dx dy d v w Q fr e rx ry q=>by
  cases dx with
  | int i=>cases dy with
   | int j=>cases e;exact⟨i,j,by rw [rx.int,ry.int],q _ H (Same.refl _) (by unfold Rp;rfl)⟩
   | _=>cases e
  | _=>cases e) hg hm (by decide +kernel) ha hb (hs:=hs) (hs2:=hs2) (hpl:=hpl)
theorem Af2 (gd:Gd X) (hg:Gl X "min") (hm:X.mg "min"=none) (ha:SE X G a ma) (hb:SE X G b mb)
  (hs:starEach [a,b] X.env=(false,eval a X.env) :: starEach [b] X.env:=by rfl) (hs2:starEach [b] X.env=(false,eval b X.env) :: starEach [] X.env:=by rfl) (hpl:(backTo pos (starEach [b] X.env)).any (·.1)=false:=by rfl):SF X G (.Call (.Name "min" p) [a,b] [] pos) (e2 Aon ma mb) :=
 Px (Acw gd.calm) (λ H O dx dy d v w Q fr e rx ry q=>by
  cases dx with
  | int i=>cases dy with
   | int j=>cases e;exact⟨i,j,by rw [rx.int,ry.int],q _ H (Same.refl _) (by unfold Rp;rfl)⟩
   | _=>cases e
  | _=>cases e) hg hm (by decide +kernel) ha hb (hs:=hs) (hs2:=hs2) (hpl:=hpl)
end
section
variable {X:Cx}{G:Fc}{p pos:Pos}{e:Expr}{m:EV}
theorem Ov (hg:Gl X "len") (hm:X.mg "len"=none) (he:SE X G e m) (hs:starEach [e] X.env=(false,eval e X.env) :: starEach [] X.env:=by rfl) (hpl:(backTo pos (starEach [] X.env)).any (·.1)=false:=by rfl):SF X G (.Call (.Name "len" p) [e] [] pos) (e1 Yp m) :=
 N7 Zg An9 hg hm PySem.boot_len he (hs:=hs) (hpl:=hpl)
theorem Tn (hg:Gl X "list") (hm:X.mg "list"=none) (he:SE X G e m) (hs:starEach [e] X.env=(false,eval e X.env) :: starEach [] X.env:=by rfl) (hpl:(backTo pos (starEach [] X.env)).any (·.1)=false:=by rfl):SN X G (.Call (.Name "list" p) [e] [] pos) (e1 V3 m) :=
 T7 Af1 Alh hg hm (by decide +kernel) he (hs:=hs) (hpl:=hpl)
theorem Aav (gd:Gd X) (hg:Gl X "all") (hm:X.mg "all"=none) (he:SE X G e m) (hs:starEach [e] X.env=(false,eval e X.env) :: starEach [] X.env:=by rfl) (hpl:(backTo pos (starEach [] X.env)).any (·.1)=false:=by rfl):SF X G (.Call (.Name "all" p) [e] [] pos) (e1 Akc m) :=
 N7 (Aen gd.calm) Ap0 hg hm (by decide +kernel) he (hs:=hs) (hpl:=hpl)
theorem Anr (gd:Gd X) (hg:Gl X "any") (hm:X.mg "any"=none) (he:SE X G e m) (hs:starEach [e] X.env=(false,eval e X.env) :: starEach [] X.env:=by rfl) (hpl:(backTo pos (starEach [] X.env)).any (·.1)=false:=by rfl):SF X G (.Call (.Name "any" p) [e] [] pos) (e1 Arp m) :=
 N7 (Adh gd.calm) Aqf hg hm (by decide +kernel) he (hs:=hs) (hpl:=hpl)
end
inductive Ty where
 | bool|int|list|tuple|str
section
variable {X:Cx}{G:Fc}{p p2 pos:Pos}{e:Expr}{m:EV}
end
structure Dfn (K:PySem.W.Frag) (mg:Str->Option Value) (x:Str) (st:Stmt) (f:Addr) (fd:FuncData):Prop where
 fn:Fun K x x st f fd
 mg:mg x=some (.ref f)
structure Cal (P:Program) (w:World) (K:PySem.W.Frag) (mg:Str->Option Value) (base:Heap) (x:Str) (ps:List Str) (k:Nat) (dn:List D->R D):Prop where
 ex:∃ (f:Addr) (fd:FuncData),mg x=some (.ref f)/\PySem.W.keepIn K (.ref f)=true/\Binds K fd ps []/\FnOk P w K mg base CX0 k f fd ps (spD K ps.length dn)
section
variable {P:Program}{w:World}{K:PySem.W.Frag}{mg:Str->Option Value}{base:Heap}{x qual:Str}{st:Stmt}{f:Addr}{fd:FuncData}{N ps:List Str}{k:Nat}{m:EX}
theorem Cm (F:Fun K x qual st f fd) (S:FnScope N ps (Ah st))
  (hb:∀ (cdv:Value) (A:Around) (outer:List Env) (s:Shared) (H:Hp) (E:XK),Room k (bx P w K mg base N qual (Ah st) f cdv A outer s H E).A->Gd (bx P w K mg base N qual (Ah st) f cdv A outer s H E)->∀ G:Fc,(∀ c,¬ G.xc c)->SB (bx P w K mg base N qual (Ah st) f cdv A outer s H E) G (Gb st) m) :
  FnOk P w K mg base CX0 (k+1) f fd ps (spD K ps.length (den N.length m)) :=
 F.ok S (λ vs H Q E h=>h.1) λ cdv A outer s H vs Q E hr ⟨hl,pr,ds,hp,rs,f⟩=>by
  have gd:Gd (bx P w K mg base N qual (Ah st) _ cdv A outer s H E):=⟨rfl,PassesOwn.never,S.nd,by have:=hr.units;exact Nat.lt_of_le_of_lt (Nat.add_le_add_left (by decide) _) this⟩
  refine⟨_,hb cdv A outer s H E hr gd ⟨H,pr,λ _=>False⟩ (λ _ h=>h),Ft N.length ds,W8 hp rs,?_⟩
  refine (Fin.bind f).mono λ o p=>?_
  cases o with
  | rt d=>exact λ v H' s z=>p v H' s z
  | nx E'=>exact λ σ' H' r'=>p .non H' r'.base (by unfold Rp;rfl)
  | bk E'=>exact p.elim
  | ct E'=>exact p.elim
end
section
variable {X:Cx}{G:Fc}{k j:Nat}{ps:List Str}{dn:List D->R D}{x:Str}{p pos:Pos}{e:Expr}{es:List Expr}{ma:Ev->R (List D)}
theorem Az (C:Cal X.prog X.w X.K X.mg X.base x ps k dn) (hx:∀ c,¬ G.xc c) (hr:Room j X.A) (hk:k<=j) (hg:Gl X x) (ha:SA X G (e :: es) ma) (hdb:(x == ("__debug__":Str))=false:=by decide) (he:starEach (e :: es) X.env=(false,eval e X.env) :: starEach es X.env:=by rfl) (hpl:(backTo pos (starEach es X.env)).any (·.1)=false:=by rfl) :
  SF X G (.Call (.Name x p) (e :: es) [] pos) (Am ps.length dn ma):=by
 obtain⟨f,fd,hm,hk',hb,F⟩:=C.ex
 exact Amn F hx (hr.mono hk) hg hm hk' hb ha hdb he hpl
end
theorem Hr (i:Nat):∀ d E E',gN i d E=some E'->clr [i] E'=clr [i] E:=λ d E E' h=>by
 unfold gN at h
 cases h
 show (E.set i (.fz d)).set i .un=E.set i .un
 rw [List.set_set]
theorem Vm (i j:Nat):∀ d E E',gT i j d E=some E'->clr [i,j] E'=clr [i,j] E:=λ d E E' h=>by
 unfold gT at h
 split at h
 ·cases h
  rename_i a b
  show (((((E.set i (.fz a)).set j (.fz b)).set i .un).set j .un))=((E.set i .un).set j .un)
  by_cases e:i=j
  ·subst e;simp
  ·rw [List.set_comm _ _ (Ne.symm e),List.set_set]
   rw [List.set_comm (l:=E) _ _ e]
   simp [List.set_set]
   rw [List.set_comm _ _ (Ne.symm e)]
 ·cases h
section
variable {X:Cx}{pins:List (Addr × Obj)}{σ:St}{H:Hp}{s:Shared}{a b:Addr}{kvs:List (List Key × V)}{k:List Key}{v:V}{r:Value}{A:Around}{E:Value->Shared->Prop}
theorem Rz {Q:Unit->Shared->Prop}(hu:A.units<cLine) (I:Inv X pins σ H s) (e:H a=some (.dT kvs)) (eb:H b=some (.tup (k.map kV))) (l:kvs.length<sizeLine) (rv:RelV v r)
  (h:∀ h' tk,Inv X pins σ (upd H a (.dT (putK kvs k v))) { s with heap:=h',toks:=tk }->Heap.SameBut a s.heap h'->Q () { s with heap:=h',toks:=tk }):wpAny (model X.prog X.w) A (dictSet a (.ref b) r) Q E s:=by
 obtain⟨z,hd,xs,rel,dd⟩:=Aoy I.hok e
 have hz:xs.length<=sizeLine:=by rw [<-Paired.length rel];exact z
 have hl:(putK kvs k v).length<=sizeLine:=by have:=Jc kvs k v;omega
 refine wpAny_dictSet_heap (hsz:=hz) (knd:=tupleKind (Cr X.prog X.w)) hu (Oh I.hok eb) dd λ h' dd' hs=>h h' _ ?_ hs
 obtain⟨q,es,ep,hq,h2,h3,h4,_,h5⟩:=dd'
 refine Yw I (by rw [e];exact True.intro) hs ⟨q,hq⟩ ⟨hl,hd,_,(rel.put k eb rv).keeps λ c ys ec=>?_,q,es,ep,hq,h2,h3,h4,h5⟩
 rw [Al (Nv ec e (λ z=>nomatch z))]
 exact ec
end
section
variable {X:Cx}{pos:Pos}{k v:Expr}{tk tv:TE}
noncomputable def tD1 (tk tv:TE):TE:=λ σ H Q=>∀ p,H p=none->Afr [(tk,tv)] σ (upd H p (.dT [])) λ ps H2=>∃ (ks:List Key) (b:Addr) (y:V),ps=[(.ref b,y)]/\H2 b=some (.tup (ks.map kV))/\H2 p=some (.dT [])/\Q (.ref p) (upd H2 p (.dT (putK [] ks y)))
theorem Asu (hu:X.A.units<cLine) (hk:PE X k tk) (hv:PE X v tv):PE X (.Dict [some k] [v] pos) (tD1 tk tv):=by
 intro pins s σ H Q I q
 have hn:=I.hok.fresh (Nat.le_refl s.heap.objs.size)
 have I1:=I.laid (a:=s.heap.objs.size) (o:=.dT []) (h':=s.heap.push { cls:=.type "dict",data:=.dict #[] }) (t':=s.toks) (λ _ _ q=>Heap.get?_push_of_some _ q) (Nat.le_refl _) (S6 s.heap I.big)
 refine wpAny_Dict_any rfl rfl (by simp) (by simp) (thn ((Agn hk hv Akz) pins _ σ _ _ I1 (q _ hn)) ?_)
 rintro ws s2 ⟨ps,H2,I2,rel,ks,b,y,ep,hb,hp,q2⟩
 subst ep
 cases rel with
 | @cons p0 w0 _ _ h0 t0 =>
  cases t0
  obtain⟨u1,u2⟩:=w0
  cases (show u1=Value.ref b from h0.1)
  unfold storeAll
  rw [List.forIn_cons]
  refine wpAny_bind (wpAny_bind (Rz hu I2 hp hb (by rw [sizeLine_eq];decide) h0.2 λ h' tk I3 _=>wpAny_pure ?_))
  show wpAny _ _ (forIn [] PUnit.unit _) _ _ _
  rw [List.forIn_nil]
  exact wpAny_pure ⟨.ref s.heap.objs.size,_,I3,rfl,q2⟩
end
noncomputable def Yh:D->Bool
 | .non=>true|.bl _=>true|.int _=>true|.str _=>true
 | _=>false
noncomputable def eD1 (mk mv:EV):EV:=λ E=>mk E >>= λ k=>mv E >>= λ v=>match keyOf k with
 | some ks=>if Yh v=true then .ok (.dic [(ks,v)]) else .no
 | none=>.no
theorem Amc {K:PySem.W.Frag}{H H':Hp}{O O':Addr->Prop}{d:D}{v:V}(h:Yh d=true) (r:Rp K H O d v):Rp K H' O' d v:=by
 cases d with
 | non=>unfold Rp at r ⊢;exact r
 | bl b=>unfold Rp at r ⊢;exact r
 | int b=>unfold Rp at r ⊢;exact r
 | str b=>unfold Rp at r ⊢;exact r
 | _=>cases h
section
variable {X:Cx}{G:Fc}{pos:Pos}{k v:Expr}{mk mv:EV}
theorem Aua (gd:Gd X) (hk:SF X G k mk) (hv:SF X G v mv):SN X G (.Dict [some k] [v] pos) (eD1 mk mv) :=
 (Asu (hu0 gd) hk hv).imp λ σ H Q z0=>z0.elim λ E z0=>z0.elim λ hr f=>λ p hp=>by
  have s0:Same H (upd H p (.dT [])):=Av hp
  refine⟨E,hr.same s0,(Fin.bind f).mono λ dk fk x H1 s1 p1=>⟨E,hr.same (s0.trans s1),(Fin.bind fk).mono λ dv fv y H2 s2 p2=>?_⟩⟩
  cases ek:keyOf dk with
  | none=>rw [ek] at fv;exact fv.elim
  | some ks =>
   rw [ek] at fv
   dsimp only at fv
   by_cases hf:Yh dv=true
   ·rw [if_pos hf] at fv
    obtain⟨b,rfl,hb⟩:=Iv ek (Or.inl (p1.mono s2 λ _ z=>z))
    have hpp:H2 p=some (.dT []):=s2 _ _ (s1 _ _ Aj)
    refine⟨ks.map Sum.inl,b,y,rfl,hb,hpp,?_⟩
    have s3:Same H (upd H2 p (.dT (putK [] (ks.map Sum.inl) y))):=λ c o e=>by
     rw [Al (Bd e hp)]
     exact s2 _ _ (s1 _ _ (s0 _ _ e))
    refine fv p _ s3 hp ⟨_,Aj,?_⟩
    show Rpk _ _ _ [(ks,dv)] [(ks.map Sum.inl,y)]
    unfold Rpk
    refine⟨y,[],rfl,?_,?_⟩
    ·unfold Rpq;exact Amc hf p2
    ·unfold Rpk;rfl
   ·rw [if_neg hf] at fv;exact fv.elim
end
end M
namespace PySem
open Sem (wp)
theorem Ws:typeLookup (.type "list") "keys"=pure none:=by rw [typeLookup_type,builtinLookup_eq_fast];kernel_rfl
theorem K8 {prog:Program}{w:World}{A:Around}{E:Value->Shared->Prop}{s:Shared}{a:Addr}{o:Obj}{xs:Array Value}{k:Nat}{name:Str}{Q:Option Value->Shared->Prop}
  (hx:s.heap.get? a=some o) (hc:o.cls=.type "list") (hdat:o.data=.seq xs k) (hd:o.dict=none) (hmiss:typeLookup (.type "list") name=pure none) (hname:(["__module__","__name__","__qualname__","__doc__","__annotations__"]:List Str).contains name=false) (hA:A.handled=none)
  (h:∀ h' tk e,Heap.NewExcOf s.heap h' e "AttributeError"->Q none { s with heap:=h',toks:=tk }) (hsz:name.length+100<=sizeLine:=by size_fits) :
  wpAny (model prog w) A (getAttr? (.ref a) name) Q E s:=by
 obtain⟨c,dct,dat,sl⟩:=o
 simp only at hc hdat hd
 subst hc hdat hd
 obtain⟨hp,g,d,tk,os⟩:=s
 have hT:∀ tk',(⟨hp,g,d,tk',os⟩:Shared).TypeIs (.ref a) "list":=λ _=>⟨_,hx,rfl⟩
 have f1:=sub_AttributeError
 have f3:=F.slot_list_getattribute.lookup
 have f4:=F.slot_list_getattribute.bind (.ref a)
 have f5:=am_list_getattr_none
 unfold getAttr? getAttrBy? getAttrBy
 repeat (any_goals (first|assumption|exact hT _|((with_reducible show wpAny _ _ (call (Value.builtin "list.__getattribute__") _ _) _ _ _);refine call_meets F.slot_list_getattribute (hT _) am_entry_list_getattribute (F.args_list_getattribute_2 _ _) (meets_getattribute_miss_list a xs k sl name _ hmiss hname hsz) ⟨hx,hA,λ h' tk' e hx'=>?_⟩)|wp_step))
 obtain⟨t',u',he⟩:=hx'.there
 show wpAny _ _ (getattributeRaised _ _ _ _ _ _ _) _ _ _
 unfold getattributeRaised
 repeat (any_goals (first|assumption|wp_step))
 exact h _ _ _ hx'.of
end PySem
namespace PySem.F
theorem my_entry_upd_loop:entryFor table "dict.update.loop"=some Builtin.«dict.update.loop»:=entryFor_of_tree (by kernel_rfl)
theorem my_plain_upd_loop:plainId "dict.update.loop"=true:=by decide +kernel
end PySem.F
namespace M
open PySem PySem.Spec PyProof.Rows L2
def Oi (H:Hp) (y:V) (kv:List Key × V):Prop:=∃ a b,y=.ref a/\H a=some (.tup [.ref b,kv.2])/\H b=some (.tup (kv.1.map kV))
noncomputable def Aad (kvs more:List (List Key × V)):List (List Key × V):=more.foldl (λ acc kv=>putK acc kv.1 kv.2) kvs
section
variable {X:Cx}{pins:List (Addr × Obj)}{σ:St}
theorem Oi.grow {H H':Hp}{y:V}{kv:List Key × V}(h:Oi H y kv) (t:∀ b ys,H b=some (.tup ys)->H' b=some (.tup ys)):Oi H' y kv:=by
 obtain⟨a,b,e,h1,h2⟩:=h
 exact⟨a,b,e,t _ _ h1,t _ _ h2⟩
theorem Agi {A:Around}{R:Result->Shared->Prop}{p d it:Addr}{ys:List V}{kys:List (List Key × V)}{res:Value}(hh:A.handled=none) (hu:A.in1.units<cLine):∀ (n i:Nat) (kvs:List (List Key × V)) (H:Hp) (s:Shared) (tk:Tok),n=ys.length-i->i<=ys.length->Inv X pins σ H s->H d=some (.dT kvs)->s.heap.IsListIter it p i->Ab1 X pins H it->SqL X.K H p ys->Paired (Oi H) ys kys->kvs.length+n<sizeLine->d≠p →
  (∀ s',Inv X pins σ (upd H d (.dT (Aad kvs (kys.drop i)))) s'->R (.ok (.ret res)) s')->codeAny (model X.prog X.w) A (.builtin "dict.update.loop" ⟨[.ref d,.ref it,.int i tk,res],[]⟩) R s:=by
 intro n
 induction n with
 | zero =>
  intro i kvs H s tk hn hi I hd hit hf hp pr hz ne hR
  have hi':i=ys.length:=by omega
  subst hi'
  refine codeAny_builtin F.my_entry_upd_loop ?_
  rw [Around.under_plainId F.my_plain_upd_loop _]
  obtain⟨its,rv,pl,hzz⟩:=I.list hp
  obtain⟨f0,f1,f2,f3,f4,f5⟩:=hf
  show wpAny _ A.in1 (pyNext (.ref it) >>= _) _ _ s
  refine wpAny_bind (wpAny_pyNext_list_end hh hit pl.isList (by simp;rw [<-rv.length];exact Nat.le_refl _) λ h' eb=>?_)
  have I':Inv X pins σ H { s with heap:=h' }:=I.turned (t':=s.toks) (λ b o hb e=>eb b o hb e) f0 f1 f3 f4 f5
  have e0:kys.drop ys.length=[]:=by rw [Paired.length pr];simp
  rw [e0] at hR
  have e1:upd H d (.dT (Aad kvs []))=H:=by
   funext b
   unfold upd
   split
   ·rename_i hb;rw [hb,hd];rfl
   ·rfl
  rw [e1] at hR
  exact wpAny_bind (wpAny_pure (wpAny_pure (hR _ I')))
 | succ n ih =>
  intro i kvs H s tk hn hi I hd hit hf hp pr hz ne hR
  have hlt:i<ys.length:=by omega
  refine codeAny_builtin F.my_entry_upd_loop ?_
  rw [Around.under_plainId F.my_plain_upd_loop _]
  obtain⟨its,rv,pl,hzz⟩:=I.list hp
  obtain⟨f0,f1,f2,f3,f4,f5⟩:=id hf
  obtain⟨kv,ekv,a,b,ea,ha,hb⟩:=Gg pr i ys[i] (by simp [hlt])
  obtain⟨u,eu,ru⟩:=rv.get (i:=i) (x:=ys[i]) (by simp [hlt])
  rw [ea] at ru
  cases ru
  show wpAny _ A.in1 (pyNext (.ref it) >>= _) _ _ s
  refine wpAny_bind (wpAny_pyNext_list_item hit pl.isList (x:=.ref a) (by simpa using eu) λ h' st' sb=>?_)
  have I1:Inv X pins σ H { s with heap:=h' }:=I.turned (t':=s.toks) (λ b o hb e=>(sb.2 b hb).trans e) f0 f1 f3 f4 f5
  obtain⟨z2,its2,rv2,o2,g1,g2,n2,g3⟩:=(show Ea X.prog X.w H h' a (.tup [.ref b,kv.2]) from I1.hok a _ ha)
  obtain⟨ub,uv,rfl,r1,r2⟩:=vals2 rv2
  cases r1
  have hT:({ s with heap:=h' }:Shared).TypeIs (.ref a) "tuple":=⟨o2,g1,g2⟩
  refine wpAny_bind (wpAny_holding (wpAny_bind (wpAny_tryCatch ?_)))
  unfold Builtin.Dict.pairItems
  refine wpAny_bind (wpAny_typeOf hT ?_)
  rw [if_pos (by decide)]
  refine wpAny_bind ?_
  unfold seqItems?
  refine wpAny_bind (wpAny_load g1 ?_)
  rw [g3]
  refine wpAny_pure (wpAny_pure ?_)
  show wpAny _ _ (holding [Value.ref b,uv] (dictSet d (.ref b) uv)) _ _ _
  refine wpAny_holding (Rz hu I1 hd hb (by omega) r2 λ h2 tk2 I2 sb2=>?_)
  have nit:it≠d:=λ z=>by rw [z,hd] at f0;cases f0
  have keepT:∀ c ws,H c=some (.tup ws)->(upd H d (.dT (putK kvs kv.1 kv.2))) c=some (.tup ws):=λ c ws ec=>by
   rw [Al (Nv ec hd (λ z=>nomatch z))];exact ec
  refine wpAny_pure ⟨plainId_quiet F.my_plain_upd_loop _,ih (i+1) (putK kvs kv.1 kv.2) (upd H d (.dT (putK kvs kv.1 kv.2))) _ _ (by omega) hlt I2 Aj (st'.at λ o e=>(sb2.2 it nit).trans e) ?_ ?_ (Paired.imp' (λ y z h=>h.grow keepT) pr) ?_ ne λ s' I'=>?_⟩
  ·exact⟨by rw [Al nit];exact f0,f1,f2,f3,f4,f5⟩
  ·rcases hp with (hp|⟨o,hp⟩)|hp
   ·exact .inl (.inl (by rw [Al (Ne.symm ne)];exact hp))
   ·exact .inl (.inr ⟨o,by rw [Al (Ne.symm ne)];exact hp⟩)
   ·exact .inr hp
  ·have:=Jc kvs kv.1 kv.2;omega
  ·refine hR s' ?_
   have hk:kys.drop i=kv :: kys.drop (i+1):=by
    obtain⟨hi2,e2⟩:=List.getElem?_eq_some_iff.mp ekv
    rw [List.drop_eq_getElem_cons hi2,e2]
   rw [hk]
   rw [Mp] at I'
   exact I'
def Aiu (K:PySem.W.Frag):List V->Hp->VK->Prop:=λ xs H Q=>∃ (p:Addr) (ys:List V) (kys:List (List Key × V)),xs=[.ref p]/\H p=some (.lst ys)/\Paired (Oi H) ys kys/\kys.length<sizeLine ∧
 ∀ l,H l=none->Q (.ref l) (upd H l (.dT (Aad [] kys)))
theorem Aa9 (gd:Gd X):Fy X (.type "dict") (Aiu X.K):=by
 intro pins s σ H xs us Q I r h
 obtain⟨p,ys,kys,rfl,hp,pk,hl,q⟩:=h
 obtain⟨u,rfl,ru⟩:=vals1 r
 cases ru
 have hn:=I.hok.fresh (Nat.le_refl s.heap.objs.size)
 have I1:=I.laid (a:=s.heap.objs.size) (o:=.dT []) (h':=s.heap.push { cls:=.type "dict",data:=.dict #[] }) (t':=s.toks) (λ _ _ q=>Heap.get?_push_of_some _ q) (Nat.le_refl _) (S6 s.heap I.big)
 have hp1:(upd H s.heap.objs.size (.dT [])) p=some (.lst ys):=by rw [Al (Bd hp hn)];exact hp
 have dp:s.heap.objs.size≠p:=λ z=>by rw [<-z,hn] at hp;cases hp
 refine callType_codes (Q₁:=λ obj s₁=>obj=.ref s.heap.objs.size/\s₁={ s with heap:=s.heap.push { cls:=.type "dict",data:=.dict #[] } }) F.kt_called_dict (F.kt_typeCall_dict_1 _) F.entry_dict_init (kt_code_dict_new _ ⟨rfl,rfl⟩) ?_
 rintro obj s₁ ⟨rfl,rfl⟩
 have hdT:({ s with heap:=s.heap.push { cls:=.type "dict",data:=.dict #[] } }:Shared).TypeIs (.ref s.heap.objs.size) "dict":=⟨_,Heap.get?_push_size _ rfl,rfl⟩
 obtain⟨zl,its,nn,rv,gl⟩:=(show Ea X.prog X.w _ (s.heap.push { cls:=.type "dict",data:=.dict #[] }) p (.lst ys) from I1.hok p _ hp1)
 have hlT:({ s with heap:=s.heap.push { cls:=.type "dict",data:=.dict #[] } }:Shared).TypeIs (.ref p) "list":=⟨_,gl,rfl⟩
 refine⟨hdT,F.args_dict_init_2 _ _,?_⟩
 unfold Builtin.«dict.__init__»
 refine wpAny_bind ?_
 unfold Builtin.Dict.selfAndRest
 refine wpAny_bind (wpAny_notOrdered_dict hdT ?_)
 show wpAny _ _ (pure (s.heap.objs.size,[Value.ref p])) _ _ _
 refine wpAny_pure ?_
 show wpAny _ _ (Builtin.Dict.updateFrom "dict.__init__" s.heap.objs.size (.ref p) [] .none) _ _ _
 unfold Builtin.Dict.updateFrom
 refine wpAny_bind (wpAny_typeOf hlT ?_)
 rw [if_pos (by decide)]
 have hh:X.A.handled=none:=I.ok.hd gd.calm
 refine wpAny_bind (K8 gl rfl rfl rfl Ws (by decide +kernel) hh λ h' tk e ne=>?_)
 have I2:Inv X pins σ (upd H s.heap.objs.size (.dT [])) { s with heap:=h',toks:=tk }:=I1.kept λ b o hb=>ne.keeps b o hb
 show wpAny _ _ (rule _ >>= _) _ _ _
 refine wpAny_bind (wpAny_rule ?_)
 obtain⟨its2,rv2,pl2,hz2⟩:=I2.list (SqL.of hp1)
 refine wpAny_bind (wpAny_pyIter_list pl2.isList ?_)
 have I3:Inv X pins σ (upd H s.heap.objs.size (.dT [])) { s with heap:=h'.push { cls:=.type "list_iterator",data:=.fields #[.ref p,rawInt 0] },toks:=tk }:=I2.kept λ b o hb=>Heap.get?_push_of_some _ hb
 have keepT:∀ c ws,H c=some (.tup ws)->(upd H s.heap.objs.size (.dT [])) c=some (.tup ws):=λ c ws ec=>by
  rw [Al (Bd ec hn)];exact ec
 have fr:(upd H s.heap.objs.size (.dT [])) h'.objs.size=none:=I2.hok.fresh (Nat.le_refl _)
 refine wpAny_pure ⟨plainId_quiet F.my_plain_upd_loop _,Agi (A:=X.A.in1) (ys:=ys) (kys:=kys) (p:=p) hh (by have:=gd.un;have e:X.A.in1.in1.units=X.A.units+1+1:=rfl;omega) ys.length 0 [] _ _ _ (by simp) (Nat.zero_le _) I3 Aj ⟨_,Heap.get?_push_size _ rfl,rfl,rfl⟩ (I2.fpOk (Nat.le_refl _) fr) (SqL.of hp1) (Paired.imp' (λ y z h=>h.grow keepT) pk) (by rw [Paired.length pk];simpa using hl) dp λ s' I'=>⟨rfl,⟨.ref s.heap.objs.size,_,?_,rfl,q _ hn⟩⟩⟩
 rw [Mp] at I'
 exact I'
end
noncomputable def Ami:D->Option (List Int × D)
 | .tup [k,v]=>(keyOf k).map λ ks=>(ks,v)
 | _=>none
noncomputable def Rq:List D->Option (List (List Int × D))
 | []=>some []
 | d :: r=>(Ami d).bind λ p=>(Rq r).map λ ps=>p :: ps
noncomputable def Acy (kvs:List (List Int × D)) (more:List (List Int × D)):List (List Int × D):=more.foldl (λ acc kv=>dput acc kv.1 kv.2) kvs
noncomputable def Wt:D->Option D
 | .lst ds=>if ds.length<=1000000 then (Rq ds).map λ ps=>.dic (Acy [] ps) else none
 | _=>none
section
variable {K:PySem.W.Frag}{H:Hp}{O:Addr->Prop}
theorem pair_at {d:D}{v:V}{p:List Int × D}(e:Ami d=some p) (r:Rp K H O d v):∃ y,Oi H v (p.1.map Sum.inl,y)/\Rp K H O p.2 y:=by
 unfold Ami at e
 split at e
 ·rename_i k w
  rw [Option.map_eq_some_iff] at e
  obtain⟨ks,ek,rfl⟩:=e
  unfold Rp at r
  obtain⟨a,vs,rfl,_,ha,rs⟩:=r
  unfold Rps at rs
  obtain⟨x,r1,rfl,px,rs⟩:=rs
  unfold Rps at rs
  obtain⟨y,r2,rfl,py,rs⟩:=rs
  unfold Rps at rs
  subst rs
  obtain⟨b,rfl,hb⟩:=Iv ek (.inl px)
  exact⟨y,⟨a,b,rfl,ha,hb⟩,py⟩
 ·cases e
theorem pairs_at:∀ {ds:List D}{vs:List V}{ps:List (List Int × D)},Rq ds=some ps->Rps K H O ds vs->∃ kys,Paired (Oi H) vs kys/\Rpk K H O ps kys
 | [],vs,ps,e,r=>by
  unfold Rps at r;subst r
  cases e
  exact⟨[],.nil,by unfold Rpk;rfl⟩
 | d :: ds,vs,ps,e,r=>by
  unfold Rps at r
  obtain⟨v,vr,rfl,p,rs⟩:=r
  unfold Rq at e
  rw [Option.bind_eq_some_iff] at e
  obtain⟨q,e1,e2⟩:=e
  rw [Option.map_eq_some_iff] at e2
  obtain⟨qs,e3,rfl⟩:=e2
  obtain⟨y,h1,h2⟩:=pair_at e1 p
  obtain⟨kys,h3,h4⟩:=pairs_at e3 rs
  refine⟨(q.1.map Sum.inl,y) :: kys,.cons h1 h3,?_⟩
  unfold Rpk
  exact⟨y,kys,rfl,by unfold Rpq;exact h2,h4⟩
theorem Aah:∀ {ps kvs:List (List Int × D)}{kys ws:List (List Key × V)},Rpk K H O ps kys->Rpk K H O kvs ws->Rpk K H O (Acy kvs ps) (Aad ws kys)
 | [],kvs,kys,ws,h,r=>by
  unfold Rpk at h;subst h;exact r
 | p :: ps,kvs,kys,ws,h,r=>by
  unfold Rpk at h
  obtain⟨v,r',rfl,h1,h2⟩:=h
  obtain⟨k,d⟩:=p
  unfold Rpq at h1
  exact Aah (kvs:=dput kvs k d) (ws:=putK ws (k.map Sum.inl) v) h2 (r.put h1)
theorem Al9:Ab6 K (Aiu K) Wt:=λ H O dx d v Q fr e rx q=>by
 cases dx with
 | lst ds =>
  simp only [Wt] at e
  split at e
  ·rename_i hl
   rw [Option.map_eq_some_iff] at e
   obtain⟨ps,e1,rfl⟩:=e
   obtain⟨a,vs,rfl,h1,r1⟩:=rx.lst
   obtain⟨kys,p1,p2⟩:=pairs_at e1 r1
   have lk:kys.length=ds.length:=by rw [<-Paired.length p1,r1.length]
   refine⟨a,vs,kys,rfl,h1,p1,by rw [lk,sizeLine_eq];omega,λ l hl=>q l _ (Av hl) hl ⟨_,Aj,?_⟩⟩
   exact ((Aah p2 (show Rpk K H O [] [] by unfold Rpk;rfl)).fresh hl).mono (Av hl) λ _ z=>z
  ·cases e
 | _=>cases e
end
section
variable {X:Cx}{G:Fc}{p pos:Pos}{e:Expr}{m:EV}
theorem Ym (gd:Gd X) (hg:Gl X "dict") (hm:X.mg "dict"=none) (he:SE X G e m) (hs:starEach [e] X.env=(false,eval e X.env) :: starEach [] X.env:=by rfl) (hpl:(backTo pos (starEach [] X.env)).any (·.1)=false:=by rfl):SN X G (.Call (.Name "dict" p) [e] [] pos) (e1 Wt m) :=
 T7 (Aa9 gd) Al9 hg hm (by decide +kernel) he (hs:=hs) (hpl:=hpl)
end
theorem Fe {N:List Str}{sc:Scope}{ts:List Nat}(h:((List.range N.length).all λ i=>ts.contains i || !(sc.names.lookup (N.getD i Str.empty) == some NameKind.local))=true):∀ (i:Nat) x,N[i]?=some x->sc.names.lookup x=some .local->i∈ts:=λ i x hi hl=>by
 have hlt:i<N.length:=(List.getElem?_eq_some_iff.mp hi).1
 have:=List.all_eq_true.mp h i (by simpa using hlt)
 rw [List.getD_eq_getElem?_getD,hi] at this
 simp only [Option.getD_some,hl] at this
 have e:(some NameKind.local == some NameKind.local)=true:=rfl
 rw [e] at this
 simpa using this
noncomputable def Ww (X:Cx):List (Str × NameKind)->Prop
 | []=>True
 | y :: r=>(y.2=.free->X.env.kindOf y.1=some .cell\/X.env.kindOf y.1=some .free)/\Ww X r
theorem Ww.all {X:Cx}:∀ {l:List (Str × NameKind)},Ww X l->∀ y∈l,y.2=.free->X.env.kindOf y.1=some .cell\/X.env.kindOf y.1=some .free
 | [],_,y,hy,_=>by simp at hy
 | z :: r,h,y,hy,hf=>by
  rcases List.mem_cons.mp hy with e|e
  ·subst e;exact h.1 hf
  ·exact Ww.all h.2 y e hf
theorem Il {X:Cx}{sc:Scope}(h1:sc.kind=.function) (h2:(sc.names.all λ y=>!(y.2 == NameKind.cell))=true) (h3:(sc.names.all λ y=>sc.names.lookup y.1 == some y.2)=true) (h4:Ww X sc.names):CScope X sc where
 kind:=h1
 nocell:=λ y hy e=>by
  have:=List.all_eq_true.mp h2 y hy
  rw [e] at this
  exact absurd this (by decide)
 names:=λ y hy=>by
  have:=List.all_eq_true.mp h3 y hy
  cases q:sc.names.lookup y.1 with
  | none=>rw [q] at this;cases z:y.2<;>(rw [z] at this;exact absurd this (by decide))
  | some k =>
   rw [q] at this
   cases z:y.2<;>cases k<;>first|rfl|(rw [z] at this;exact absurd this (by decide))
 free:=h4.all
noncomputable def fuel:Nat:=1000000
theorem J4 {X:Cx}{G:Fc}{x:Str}{i:Int}{pos:Pos}(h:∃ t,X.mg x=some (.int i t)) (hg:Gl X x) (hd:(x == ("__debug__":Str))=false:=by decide):SF X G (.Name x pos) (kE (.int i)):=by
 obtain⟨t,h⟩:=h
 exact Akv hg h ⟨t,rfl⟩ hd
structure Ent (K:PySem.W.Frag) (x:Str) (st:Stmt) (f:Addr):Prop where
 a:PySem.W.nsIn K mainGlobals x=some (some (.ref f))
 l:∃ fd,Fun K x x st f fd
theorem Apo {K:PySem.W.Frag}{x:Str}{st:Stmt}{f:Addr}{oc:Value}{od an:Option Addr}{sl:Array (Option Value)}{kV dc pm cd ct:Value}(a:PySem.W.nsIn K mainGlobals x=some (some (.ref f)))
  (l:K.lookup f=some ⟨oc,od,.func (PySem.W.fnOf x x (K6 st) (Gb st) (Ah st) .none kV dc pm an cd ct),sl⟩) (c:PySem.W.codeIn K cd x=true) (k:PySem.W.keepIn K (.ref f)=true):Ent K x st f:=⟨a,_,Aq0 l c k⟩
theorem ent_ex {K:PySem.W.Frag}{h:Heap}{x:Str}{st:Stmt}{f:Addr}{oc:Value}{od an:Option Addr}{sl:Array (Option Value)}{kV dc pm cd ct:Value}(_:K.In h) (a:PySem.W.nsIn K mainGlobals x=some (some (.ref f)))
  (l:K.lookup f=some ⟨oc,od,.func (PySem.W.fnOf x x (K6 st) (Gb st) (Ah st) .none kV dc pm an cd ct),sl⟩) (c:PySem.W.codeIn K cd x=true) (k:PySem.W.keepIn K (.ref f)=true):∃ f,Ent K x st f:=⟨f,Apo a l c k⟩
theorem int_ex {K:PySem.W.Frag}{h:Heap}{x:Str}{i:Int}{t:Tok}(_:K.In h) (a:PySem.W.nsIn K mainGlobals x=some (some (.int i t))):∃ t,PySem.W.nsIn K mainGlobals x=some (some (.int i t)):=⟨t,a⟩
theorem Ent.dfn {K:PySem.W.Frag}{h:Heap}{mg:Str->Option Value}{x:Str}{st:Stmt}{f:Addr}(e:Ent K x st f) (X:K.In h) (G:h.Ns mainGlobals mg):∃ fd,Dfn K mg x st f fd:=by
 obtain⟨fd,F⟩:=e.l
 exact⟨fd,F,PySem.W.mg_of X G e.a⟩
theorem Ane {dn:List D->R D}{K:PySem.W.Frag}{H:Hp}{a:Addr}{ns:List Int}(hl:ns.length<=63) (hS:SqL K H a (ns.map V.int)) (h:∀ ns:List Int,ns.length<=63->dn [.scr ns]=.ok (.bl true)):spD K 1 dn [.ref a] H (λ v _=>v=.bl true) λ _ _ _=>False:=by
 refine⟨rfl,λ _=>False,[.scr ns],λ _ h=>h.elim,Rps.cons ?_ Rps.nil,?_⟩
 ·unfold Rp
  refine⟨a,rfl,?_⟩
  rcases hS with h|h
  ·exact .inl ⟨id,h⟩
  ·exact .inr (.inr h)
 ·rw [h ns hl]
  exact λ v H' _ r=>by unfold Rp at r;exact r
theorem Alw {P:Program}{w:World}{K:PySem.W.Frag}{mg:Str->Option Value}{fa:Addr}{k:Nat}{dn:List D->R D}{st:Stmt}{f:Addr}{fd:FuncData}(hfa:mg "law"=some (.ref fa)) (Dn:Dfn K mg "law" st f fd)
  (hb:∀ (s:Shared) (v:Value),BindsTo s fd ⟨[v],[]⟩ [("script",v)])
  (h:∀ base:Heap,FnOk P w K mg base CX0 k f fd ["script"] (spD K 1 dn)) :
  ∃ fd:FuncData,(∀ (s:Shared) (v:Value),BindsTo s fd ⟨[v],[]⟩ [("script",v)])/\∀ base:Heap,K.In base->base.Ns mainGlobals mg->FnOk P w K mg base CX0 k fa fd ["script"] (spD K 1 dn):=by
 have e:=hfa.symm.trans Dn.mg
 cases e
 exact⟨fd,hb,λ base _ _=>h base⟩
theorem Fun.one {K:PySem.W.Frag}{x qual:Str}{st:Stmt}{f:Addr}{fd:FuncData}{p:Str}(F:Fun K x qual st f fd)
  (h:∀ (kV doc pm:Value) (an:Option Addr) (cdv ct u:Value),bindArgs (PySem.W.fnOf x qual (K6 st) (Gb st) (Ah st) .none kV doc pm an cdv ct) ⟨[u],[]⟩=pure [(p,u)]) (s:Shared) (v:Value):BindsTo s fd ⟨[v],[]⟩ [(p,v)]:=by
 obtain⟨oc,od,kV,doc,pm,an,cdv,ct,osl,rfl,lk,hcd⟩:=F.ex
 exact .of_eq (h kV doc pm an cdv ct v)
end M
namespace M
open PySem PySem.W PySem.Spec PyProof.Rows L2
noncomputable def dTup:D->Option (List Int)
 | .tup ds=>(Ht ds).bind λ ns=>if ns.isEmpty then none else some ns
 | _=>none
noncomputable def Ag3:List D->Option (List (List Int))
 | []=>some []
 | d :: r=>(dTup d).bind λ p=>(Ag3 r).map λ ps=>p :: ps
noncomputable def kT (k:List Int):D:=.tup (k.map D.int)
noncomputable def Xy:D->Option D
 | .lst ds=>(Ag3 ds).bind λ ks=>if ks.length<64 then some (.lst ((Nj ks).map kT)) else none
 | _=>none
section
variable {K:PySem.W.Frag}{H:Hp}{O:Addr->Prop}
theorem Aq3 {d:D}{v:V}{k:List Int}(e:dTup d=some k) (r:Rp K H O d v):TupAt H v k/\k≠[]/\∀ a,v=.ref a->¬ O a:=by
 cases d with
 | tup ds =>
  simp only [dTup,Option.bind_eq_some_iff] at e
  obtain⟨ns,e1,e2⟩:=e
  have hd:=Fl e1
  subst hd
  unfold Rp at r
  obtain⟨a,vs,rfl,no,ha,rs⟩:=r
  have hv:=rs.ints
  subst hv
  split at e2
  ·cases e2
  ·rename_i he
   cases e2
   exact⟨⟨a,rfl,ha⟩,by intro z;subst z;simp at he,λ b hb=>by cases hb;exact no⟩
 | _=>cases e
theorem Ac8:∀ {ds:List D}{vs:List V}{ks:List (List Int)},Ag3 ds=some ks->Rps K H O ds vs->Paired (TupAt H) vs ks/\(∀ k∈ks,k≠[])/\∀ v∈vs,∀ a,v=.ref a->¬ O a
 | [],vs,ks,e,r=>by
  unfold Rps at r;subst r
  cases e
  exact⟨.nil,by simp,by simp⟩
 | d :: ds,vs,ks,e,r=>by
  unfold Rps at r
  obtain⟨v,vr,rfl,p,rs⟩:=r
  unfold Ag3 at e
  rw [Option.bind_eq_some_iff] at e
  obtain⟨q,e1,e2⟩:=e
  rw [Option.map_eq_some_iff] at e2
  obtain⟨qs,e3,rfl⟩:=e2
  obtain⟨h1,h2,h3⟩:=Aq3 e1 p
  obtain⟨h4,h5,h6⟩:=Ac8 e3 rs
  refine⟨.cons h1 h4,λ k hk=>?_,λ u hu=>?_⟩
  ·rcases List.mem_cons.mp hk with e|e
   ·rw [e];exact h2
   ·exact h5 k e
  ·rcases List.mem_cons.mp hu with e|e
   ·rw [e];exact h3
   ·exact h6 u e
theorem V6:∀ {vs:List V}{ks:List (List Int)},Paired (TupAt H) vs ks->(∀ v∈vs,∀ a,v=.ref a->¬ O a)->Rps K H O (ks.map kT) vs
 | _,_,.nil,_=>Rps.nil
 | _,_,.cons (a:=v) (b:=k) h t,hn=>by
  rw [List.map_cons]
  refine Rps.cons ?_ (V6 t λ u hu=>hn u (List.mem_cons_of_mem _ hu))
  obtain⟨a,rfl,ha⟩:=h
  unfold kT Rp
  exact⟨a,_,rfl,hn _ (by simp) a rfl,ha,Kv _⟩
theorem Aj7:Ab6 K (Adu K) Xy:=λ H O dx d v Q fr e rx q=>by
 cases dx with
 | lst ds =>
  simp only [Xy,Option.bind_eq_some_iff] at e
  obtain⟨ks,e1,e2⟩:=e
  split at e2
  ·rename_i hl
   cases e2
   obtain⟨a,vs,rfl,h1,r1⟩:=rx.lst
   obtain⟨p1,p2,p3⟩:=Ac8 e1 r1
   refine⟨a,vs,ks,rfl,SqL.of h1,p1,p2,hl,λ l outs hl ho po=>q l _ (Av hl) hl ⟨_,Aj,?_⟩⟩
   exact ((V6 (K:=K) po λ u hu=>p3 u (ho u hu)).fresh hl).mono (Av hl) λ _ z=>z
  ·cases e2
 | _=>cases e
end
section
variable {X:Cx}{G:Fc}{p pos:Pos}{e:Expr}{m:EV}
theorem Uh (gd:Gd X) (hg:Gl X "sorted") (hm:X.mg "sorted"=none) (he:SE X G e m) (hs:starEach [e] X.env=(false,eval e X.env) :: starEach [] X.env:=by rfl) (hpl:(backTo pos (starEach [] X.env)).any (·.1)=false:=by rfl):SN X G (.Call (.Name "sorted" p) [e] [] pos) (e1 Xy m) :=
 Ah9 X5 Aj7 hg hm (by decide +kernel) he (hs:=hs) (hpl:=hpl)
end
section
variable {X:Cx}
end
noncomputable def Au1:D->Option D
 | .dic kvs=>if (kvs.all λ kv=>!kv.1.isEmpty)=true/\kvs.length<64 then some (.lst ((Nj (kvs.map (·.1))).map kT)) else none
 | _=>none
section
variable {K:PySem.W.Frag}{H:Hp}{O:Addr->Prop}
theorem Rpk.keys:∀ {kvs:List (List Int × D)}{ws:List (List Key × V)},Rpk K H O kvs ws->ws.map (·.1)=(kvs.map (·.1)).map λ k=>k.map Sum.inl
 | [],_,h=>by unfold Rpk at h;subst h;rfl
 | (k,d) :: r,_,h=>by
  unfold Rpk at h
  obtain⟨v,r',rfl,_,h2⟩:=h
  simp [Rpk.keys h2]
end
section
variable {X:Cx}{G:Fc}{p pos:Pos}{e:Expr}{m:EV}
end
end M
namespace M
open PySem PySem.Spec PyProof.Rows L2
noncomputable def Axg (i:Nat):EX:=λ E=>match E[i]? with
 | some (.ow d)=>.ok (.rt d)
 | _=>.no
section
variable {X:Cx}{G:Fc}{st:Stmt}{rest:List Stmt}{m n:EX}{e:Expr}{me:EV}{pos:Pos}
noncomputable def spN (K:PySem.W.Frag) (n:Nat) (den:List D->R D):Sp:=λ vs H Q _=>vs.length=n/\∃ (pr:Addr->Prop) (ds:List D),(∀ a,pr a->∃ o,H a=some o/\Kr o)/\Rps K H pr ds vs/\Fin (den ds) (λ d=>∀ a H',Same H H'->H a=none->Own K H' (λ b=>pr b\/b=a) d a->Q (.ref a) H') λ _=>False
structure CalN (P:Program) (w:World) (K:PySem.W.Frag) (mg:Str->Option Value) (base:Heap) (x:Str) (ps:List Str) (k:Nat) (dn:List D->R D):Prop where
 ex:∃ (f:Addr) (fd:FuncData),mg x=some (.ref f)/\PySem.W.keepIn K (.ref f)=true/\Binds K fd ps []/\FnOk P w K mg base CX0 k f fd ps (spN K ps.length dn)
end
section
variable {P:Program}{w:World}{K:PySem.W.Frag}{mg:Str->Option Value}{base:Heap}{x qual:Str}{st:Stmt}{f:Addr}{fd:FuncData}{N ps:List Str}{k:Nat}{m:EX}
end
section
variable {X:Cx}{G:Fc}{k j:Nat}{ps:List Str}{dn:List D->R D}{x:Str}{p pos:Pos}{e:Expr}{es:List Expr}{ma:Ev->R (List D)}
end
end M
namespace M
open PySem PySem.W PySem.Spec PyProof.Rows L2
noncomputable def Itk (a:Addr) (o:Obj) (kvs:List (List Key × V)):It :=
 ⟨λ i H=>H a=some (.frz o (.dT kvs))/\i<kvs.length,λ i H x H'=>H'=H/\∃ k v b,kvs[i]?=some (k,v)/\x=.ref b/\H b=some (.tup (k.map kV)),λ i H=>H a=some (.frz o (.dT kvs))/\kvs.length<=i⟩
theorem Io {X:Cx}{pins:List (Addr × Obj)}{σ:St}{H:Hp}{s:Shared}{a:Addr}{o:Obj}{kvs:List (List Key × V)}(I:Inv X pins σ H s) (h:H a=some (.frz o (.dT kvs))) :
  s.heap.get? a=some o/\o.ExactDict/\∃ es ep,o.data=.dict es ep/\es.size=kvs.length/\∀ (i:Nat) (e:DictEntry),es[i]?=some e->∃ k v b,kvs[i]?=some (k,v)/\e.key=.ref b/\RelV v e.val/\H b=some (.tup (k.map kV)):=by
 obtain⟨g,z,y,xs,r,o',es,ep,h1,h2,h3,h4,h5⟩:=(show Ea X.prog X.w H s.heap a (.frz o (.dT kvs)) from I.hok a _ h)
 rw [g] at h1;cases h1
 have l:es.size=kvs.length:=by
  have:=congrArg List.length h4
  simp only [Array.length_toList,List.length_map] at this
  rw [this];exact (Paired.length r).symm
 refine⟨g,h2,es,ep,h3,l,λ i e he=>?_⟩
 have he':es.toList[i]?=some e:=by simpa using he
 rw [h4,List.getElem?_map] at he'
 cases q:xs[i]? with
 | none=>rw [q] at he';cases he'
 | some p =>
  rw [q] at he'
  cases he'
  have hi:i<kvs.length:=by rw [<-l];exact (Array.getElem?_eq_some_iff.mp he).1
  obtain⟨p',e1,e2,e3,e4⟩:=Gg r i kvs[i] (by simp [hi])
  rw [q] at e1;cases e1
  exact⟨kvs[i].1,kvs[i].2,p.2.1,by simp [hi],rfl,e4,e3⟩
theorem Adn {P:Program}{w:World}{K:PySem.W.Frag}{tg:Expr}(a it:Addr) (o:Obj) (kvs:List (List Key × V)) (hx:o.ExactDict) (es:Array DictEntry) (ep:Nat) (hd:o.data=.dict es ep):Turn P w K tg (Itk a o kvs) [it] it (λ i h=>h.IsKeyIter it a i es.size ep) where
 mem:=by simp
 obj:=λ i h st b hb=>by
  have e:b=it:=by simpa using hb
  subst e
  obtain⟨o,e,c,d⟩:=st
  exact⟨o,e,λ v z=>by rw [d] at z;cases z⟩
 keep:=λ i h h' st k=>st.at λ o e=>k it (by simp) o e
 item:=by
  intro X hP hw hK hc i pins s σ H E I hf st hg
  subst hP hw hK
  obtain⟨f0,f1,f2,f3,f4,f5⟩:=hf it (by simp)
  obtain⟨g,_,es',ep',d',l',ent⟩:=Io I hg.1
  rw [hd] at d';cases d'
  have hi:i<es.size:=by rw [l'];exact hg.2
  obtain⟨k,v,b,e1,e2,e3,e4⟩:=ent i es[i] (by simp [hi])
  refine Agl st ⟨o,g,hx,hd⟩ (e:=es[i]) (by simp [hi]) λ h' st' sb=>?_
  have I1:Inv X pins σ H { s with heap:=h' }:=I.turned (t':=s.toks) (λ b o hb e=>(sb.2 b hb).trans e) f0 f1 f3 f4 f5
  obtain⟨oi,e,c,d⟩:=id st'
  exact⟨_,rfl,Ahc (s:={ s with heap:=h' }) e c d (by decide) ⟨.ref b,H,I1,e2,⟨rfl,k,v,b,e1,rfl,e4⟩,st',λ b hb=>(hf b hb).1⟩⟩
 done:=by
  intro X hP hw hK hc i pins s σ H E I hf st hg
  subst hP hw hK
  obtain⟨f0,f1,f2,f3,f4,f5⟩:=hf it (by simp)
  obtain⟨g,_,es',ep',d',l',ent⟩:=Io I hg.1
  rw [hd] at d';cases d'
  exact Akq (I.ok.hd hc) st ⟨o,g,hx,hd⟩ (by simp;rw [l'];exact hg.2) λ h' eb=>⟨rfl,I.turned (t':=s.toks) (λ b o hb e=>eb b o hb e) f0 f1 f3 f4 f5⟩
 self:=λ _ _ _ _ _ st h=>wpAny_pyIter_keyiter st h
noncomputable def iDk (tl:TE):TI:=λ σ H R=>tl σ H λ x H1=>∃ a o kvs,x=.ref a/\H1 a=some (.frz o (.dT kvs))/\R (Itk a o kvs) H1
theorem Ak5 {X:Cx}{tg l:Expr}{tl:TE}(hl:PE X l tl):PI X tg l (iDk tl):=by
 intro pins s σ H R I h
 refine thn (hl pins s σ H _ I h) ?_
 rintro v s1 ⟨x,H1,I1,r1,q1⟩
 obtain⟨a,o,kvs,e,e2,q2⟩:=q1
 subst e
 cases r1
 obtain⟨g,hx,es,ep,hd,l,ent⟩:=Io I1 e2
 have lo:(a == sysModules)=false:=((I1.hok a _ e2).2).2.1
 refine Agp lo ⟨o,g,hx,hd⟩ ?_
 refine⟨s1.heap.objs.size,[s1.heap.objs.size],_,_,H1,rfl,I1.kept (t':=s1.toks) λ b o e=>Heap.get?_push_of_some _ e,Adn a _ o kvs hx es ep hd,⟨_,Heap.get?_push_size _ rfl,rfl,rfl⟩,λ b hb=>?_,q2⟩
 have e:b=s1.heap.objs.size:=by simpa using hb
 subst e
 exact I1.fpOk (Nat.le_refl _) (I1.hok.fresh (Nat.le_refl _))
section
variable {X:Cx}{G:Fc}{tg iter:Expr}
theorem Rpk.at {K:PySem.W.Frag}{H:Hp}{O:Addr->Prop}:∀ {kvs:List (List Int × D)}{ws:List (List Key × V)}{i:Nat}{kd:List Int × D},Rpk K H O kvs ws->kvs[i]?=some kd->∃ v,ws[i]?=some (kd.1.map Sum.inl,v)/\Rp K H O kd.2 v
 | [],_,_,_,_,e=>by simp at e
 | (k,d) :: r,ws,0,kd,h,e=>by
  unfold Rpk at h
  obtain⟨v,r',rfl,p,q⟩:=h
  simp at e;subst e
  unfold Rpq at p
  exact⟨v,rfl,p⟩
 | (k,d) :: r,ws,i+1,kd,h,e=>by
  unfold Rpk at h
  obtain⟨v,r',rfl,p,q⟩:=h
  simpa using Rpk.at q (by simpa using e)
theorem Ade {K:PySem.W.Frag}{H:Hp}{O:Addr->Prop}{k:List Int}{b:Addr}(s:Sane H O) (h:H b=some (.tup ((k.map (Sum.inl:Int->Key)).map kV))):Rp K H O (kT k) (.ref b):=by
 unfold kT Rp
 refine⟨b,k.map V.int,rfl,s.tup h,?_,Kv _⟩
 rw [h,List.map_map];rfl
noncomputable def iK (m:EV):Ev->R (List D):=λ E=>m E >>= λ d=>match d with
 | .dic kvs=>.ok (kvs.map λ kv=>kT kv.1)
 | _=>.no
theorem Ae7 {m:EV}(h:SF X G iter m):SI X G tg iter (iK m):=(Ak5 h).imp λ σ H Q z0=>z0.elim λ E z0=>z0.elim λ hr f=>⟨E,hr,(Fin.bind f).mono λ d p v H1 s1 z=>by
 cases d with
 | dic kvs =>
  unfold Rp at z
  obtain⟨a,ws,rfl,no,⟨o,ha⟩,rs⟩:=z
  refine⟨a,o,ws,rfl,ha,p _ H1 s1 λ G' E' σ' H' le r'=>?_⟩
  have hl':=(locked le r' _ _ no ha).1
  refine⟨⟨hl',by simp [rs.length]⟩,λ i d hd=>?_⟩
  rw [List.getElem?_map,Option.map_eq_some_iff] at hd
  obtain⟨kd,e1,rfl⟩:=hd
  obtain⟨v,e2,_⟩:=rs.at e1
  refine⟨⟨hl',(List.getElem?_eq_some_iff.mp e2).1⟩,λ x H'' ⟨e,k,v',b,e3,e4,e5⟩=>?_⟩
  subst e e4
  rw [e2] at e3;cases e3
  exact⟨Same.refl _,Ade r'.sane e5⟩
 | _=>exact p.elim⟩
end
section
variable {prog:Program}{w:World}{A:Around}{E:Value->Shared->Prop}{s:Shared}{d it v:Addr}{es:Array DictEntry}{ep:Nat}
theorem Ael {Q:Value->Shared->Prop}(hd:(d == sysModules)=false) (x:U6 s.heap d es ep) (q:Q (.ref s.heap.objs.size) { s with heap:=s.heap.push { cls:=.type "dict_items",data:=.fields #[.ref d] } }) :
  wpAny (model prog w) A (call (.builtin "dict.items") [.ref d]) Q E s:=by
 have hT:=x.type
 refine wpAny_call_entry F.slot_dict_items hT F.entry_dict_items ?_ (F.args_dict_items_1 _)
 unfold Builtin.«dict.items»
 refine wpAny_bind ?_
 unfold Builtin.Dict.noArgs
 refine wpAny_bind (wpAny_notOrdered_dict hT ?_)
 show wpAny _ _ (pure d) _ _ s
 refine wpAny_pure ?_
 show wpAny _ _ (Builtin.Dict.showsAll d >>= _) _ _ s
 unfold Builtin.Dict.showsAll
 rw [hd,if_neg Bool.false_ne_true]
 exact wpAny_bind (wpAny_pure (wpAny_bind (wpAny_newObj_type (wpAny_pure ⟨_,rfl,q⟩))))
theorem Abp {Q:Value->Shared->Prop}(hd:(d == sysModules)=false) (x:U6 s.heap d es ep) (q:Q (.ref s.heap.objs.size) { s with heap:=s.heap.push { cls:=.type "dict_values",data:=.fields #[.ref d] } }) :
  wpAny (model prog w) A (call (.builtin "dict.values") [.ref d]) Q E s:=by
 have hT:=x.type
 refine wpAny_call_entry F.slot_dict_values hT F.entry_dict_values ?_ (F.args_dict_values_1 _)
 unfold Builtin.«dict.values»
 refine wpAny_bind ?_
 unfold Builtin.Dict.noArgs
 refine wpAny_bind (wpAny_notOrdered_dict hT ?_)
 show wpAny _ _ (pure d) _ _ s
 refine wpAny_pure ?_
 show wpAny _ _ (Builtin.Dict.showsAll d >>= _) _ _ s
 unfold Builtin.Dict.showsAll
 rw [hd,if_neg Bool.false_ne_true]
 exact wpAny_bind (wpAny_pure (wpAny_bind (wpAny_newObj_type (wpAny_pure ⟨_,rfl,q⟩))))
theorem Aeo {Q:Value->Shared->Prop}(hv:s.heap.IsItemsView v d) (x:U6 s.heap d es ep)
  (hQ:Q (.ref s.heap.objs.size) { s with heap:=s.heap.push { cls:=.type "dict_itemiterator",data:=.fields #[.none,.bool false,.ref d,.int 0 0,.int es.size 0,.int ep 0,.none,.none] } }) :
  wpAny (model prog w) A (pyIter (.ref v)) Q E s:=by
 obtain⟨ov,hov,hcv,hdv⟩:=id hv
 obtain⟨o,ho,hc,hdat⟩:=id x
 refine wpAny_pyIter_slot hv.typeIs F.slot_dict_items_iter (wpAny_call_entry F.slot_dict_items_iter hv.typeIs F.entry_dict_items_iter ?_ (F.args_dict_items_iter_1 _))
 unfold Builtin.«dict_items.__iter__»
 refine wpAny_bind (wpAny_pure (wpAny_bind ?_))
 unfold Builtin.Dict_items.dictOf
 refine wpAny_bind (wpAny_field hov hdv (x:=.ref d) rfl (wpAny_pure (wpAny_bind ?_)))
 unfold Builtin.Dict_items.newIterator
 refine wpAny_bind (wpAny_dictEntries ho hdat (wpAny_bind (wpAny_dictEpoch ho hdat ?_)))
 simp only [show Builtin.Dict_items.ownsTuple "dict_itemiterator"=true by decide,if_true]
 refine wpAny_newObj_type (wpAny_pure ⟨_,rfl,"dict_itemiterator",_,⟨_,Heap.get?_push_size _ rfl,rfl⟩,F.slot_dict_itemiterator_next.lookup,?_⟩)
  (by simp only [sizeOk,Builtin.Dict_items.ownedTupleFields,List.size_toArray,List.length_append,List.length_cons,List.length_nil,sizeLine_eq];omega)
 simpa [rawInt,Builtin.Dict_items.ownedTupleFields] using hQ
theorem Afp {Q:Value->Shared->Prop}(hv:s.heap.IsValuesView v d) (x:U6 s.heap d es ep)
  (hQ:Q (.ref s.heap.objs.size) { s with heap:=s.heap.push { cls:=.type "dict_valueiterator",data:=.fields #[.ref d,.int 0 0,.int es.size 0,.int ep 0] } }) :
  wpAny (model prog w) A (pyIter (.ref v)) Q E s:=by
 obtain⟨ov,hov,hcv,hdv⟩:=id hv
 obtain⟨o,ho,hc,hdat⟩:=id x
 refine wpAny_pyIter_slot hv.typeIs F.slot_dict_values_iter (wpAny_call_entry F.slot_dict_values_iter hv.typeIs F.entry_dict_values_iter ?_ (F.args_dict_values_iter_1 _))
 unfold Builtin.«dict_values.__iter__»
 refine wpAny_bind (wpAny_pure (wpAny_bind ?_))
 unfold Builtin.Dict_items.dictOf
 refine wpAny_bind (wpAny_field hov hdv (x:=.ref d) rfl (wpAny_pure (wpAny_bind ?_)))
 unfold Builtin.Dict_items.newIterator
 refine wpAny_bind (wpAny_dictEntries ho hdat (wpAny_bind (wpAny_dictEpoch ho hdat ?_)))
 simp only [show Builtin.Dict_items.ownsTuple "dict_valueiterator"=false by decide,Bool.false_eq_true,if_false]
 refine wpAny_newObj_type (wpAny_pure ⟨_,rfl,"dict_valueiterator",_,⟨_,Heap.get?_push_size _ rfl,rfl⟩,F.slot_dict_valueiterator_next.lookup,?_⟩)
 simpa [rawInt] using hQ
theorem Adm {i:Nat}{e:DictEntry}{ok ov:Value}{Q:Option Value->Shared->Prop}(hit:IsItemIter s.heap it d i es.size ep ok ov) (x:U6 s.heap d es ep) (hx:es[i]?=some e)
  (hQ:∀ h',IsItemIterOut h' it d (i+1) es.size ep e.key e.val s.heap.objs.size->h'.get? s.heap.objs.size=some { cls:=.type "tuple",data:=.seq #[e.key,e.val] } →
   (∀ b o,b≠it->s.heap.get? b=some o->h'.get? b=some o)->Q (some (.ref s.heap.objs.size)) { s with heap:=h' }):wpAny (model prog w) A (pyNext (.ref it)) Q E s:=by
 obtain⟨hp,g,dr,tk,os⟩:=s
 obtain⟨od,hod,hcd,hdd⟩:=x
 have hT:Shared.TypeIs ⟨hp,g,dr,tk,os⟩ (.ref it) "dict_itemiterator":=⟨_,hit,rfl⟩
 unfold pyNext
 refine wpAny_bind (wpAny_attempt (wpAny_callSpecial?_slot (name:=Str.ofString "__next__") hT F.slot_dict_itemiterator_next
  (wpAny_call_entry F.slot_dict_itemiterator_next hT F.entry_dict_itemiterator_next ?_ (F.args_dict_itemiterator_next_1 _))))
 refine wpAny_bind (wpAny_pure (wpAny_bind (wpAny_bind ?_)))
 first|refine wpAny_bind (wpAny_typeNameOfWhole_itemiter hT (wpAny_pure ?_))|refine wpAny_bind (wpAny_typeNameOf_itemiter hT (wpAny_pure ?_))
 refine wpAny_bind (wpAny_fieldsOf hit rfl ?_)
 simp only [show Builtin.Dict_items.ownsTuple "dict_itemiterator"=true by decide,if_true]
 show wpAny _ _ (if (Value.ref d == Value.none)=true then _ else _) _ _ _
 rw [if_neg (show ¬ ((Value.ref d == Value.none)=true) from Bool.false_ne_true)]
 refine wpAny_bind (wpAny_pure (wpAny_bind (wpAny_dictEntries hod hdd ?_)))
 rw [if_neg (by simp)]
 refine wpAny_bind (wpAny_pure (wpAny_bind (wpAny_dictEpoch hod hdd ?_)))
 rw [if_neg (by simp)]
 refine wpAny_pure ?_
 simp only [show ¬ ((i:Int)<0) from by omega,if_false,Int.toNat_natCast,hx]
 refine wpAny_bind ?_
 first|refine wpAny_bind (wpAny_typeNameOfWhole_itemiter hT (wpAny_pure ?_))|refine wpAny_bind (wpAny_typeNameOf_itemiter hT (wpAny_pure ?_))
 refine wpAny_bind (wpAny_isOneOf_itemiter hT ?_)
 show wpAny _ _ (setField (.ref it) 3 (rawInt ((i:Int)+1)) >>= _) _ _ ⟨hp,g,dr,tk,os⟩
 refine wpAny_bind (wpAny_setField_rec hit (by simp) λ h₁ he₁ hs₁=>?_)
 replace hs₁:Heap.SameBut it hp h₁:=hs₁
 replace he₁:IsItemIter h₁ it d (i+1) es.size ep ok ov:=by
  have e:((i+1:Nat):Int)=(i:Int)+1:=by omega
  unfold IsItemIter;rw [e];simpa [rawInt] using he₁
 have hT₁:Shared.TypeIs ⟨h₁,g,dr,tk,os⟩ (.ref it) "dict_itemiterator":=⟨_,he₁,rfl⟩
 refine wpAny_bind (wpAny_holding (wpAny_bind (wpAny_isOneOf_itemiter hT₁ (wpAny_bind (wpAny_isOneOf_itemiter hT₁ ?_)))))
 show wpAny _ _ (Builtin.Dict_items.pairFromOwner (.ref it) 6 e.key e.val) _ _ ⟨h₁,g,dr,tk,os⟩
 unfold Builtin.Dict_items.pairFromOwner
 refine wpAny_bind (wpAny_newTuple ?_)
 have he₂:IsItemIter (h₁.push { cls:=.type "tuple",data:=.seq #[e.key,e.val] }) it d (i+1) es.size ep ok ov:=Heap.get?_push_of_some _ he₁
 generalize hh₂:h₁.push { cls:=.type "tuple",data:=.seq #[e.key,e.val] }=h₂ at he₂
 have hz₁:h₁.objs.size=hp.objs.size:=hs₁.1
 have hil:it<hp.objs.size:=Heap.lt_size hit
 have ht₂:h₂.get? hp.objs.size=some { cls:=.type "tuple",data:=.seq #[e.key,e.val] }:=by rw [<-hh₂,<-hz₁];exact Heap.get?_push_size _ rfl
 have hk₂:∀ b o,b≠it->hp.get? b=some o->h₂.get? b=some o:=λ b o hb e=>by rw [<-hh₂];exact Heap.get?_push_of_some _ (hs₁.extBut b o hb e)
 show wpAny _ _ (Builtin.Dict_items.ownedTupleIsFree (.ref it) >>= _) _ _ ⟨h₂,g,dr,tk,os⟩
 rw [hz₁]
 clear hh₂ he₁ hs₁ hT₁ hz₁ h₁
 refine wpAny_bind ?_
 unfold Builtin.Dict_items.ownedTupleIsFree
 refine wpAny_bind (wpAny_field he₂ rfl (x:=.none) rfl (wpAny_pure ?_))
 simp only [if_true]
 refine wpAny_bind (wpAny_field he₂ rfl (x:=ok) rfl (wpAny_bind (wpAny_field he₂ rfl (x:=ov) rfl ?_)))
 refine wpAny_bind (wpAny_setField_rec he₂ (by simp) λ h₃ he₃ hs₃=>?_)
 replace hs₃:Heap.SameBut it h₂ h₃:=hs₃
 replace he₃:IsItemIter h₃ it d (i+1) es.size ep e.key ov:=he₃
 refine wpAny_bind (wpAny_setField_rec he₃ (by simp) λ h₄ he₄ hs₄=>?_)
 replace hs₄:Heap.SameBut it h₃ h₄:=hs₄
 replace he₄:IsItemIter h₄ it d (i+1) es.size ep e.key e.val:=he₄
 refine wpAny_bind (wpAny_setField_rec he₄ (by simp) λ h₅ he₅ hs₅=>?_)
 replace hs₅:Heap.SameBut it h₄ h₅:=hs₅
 replace he₅:IsItemIterOut h₅ it d (i+1) es.size ep e.key e.val hp.objs.size:=he₅
 refine wpAny_bind (wpAny_setField_rec he₅ (by simp) λ h₆ he₆ hs₆=>?_)
 replace hs₆:Heap.SameBut it h₅ h₆:=hs₆
 replace he₆:IsItemIterOut h₆ it d (i+1) es.size ep e.key e.val hp.objs.size:=he₆
 refine wpAny_bind (wpAny_letGo (wpAny_pure (wpAny_pure ⟨_,rfl,wpAny_pure (hQ h₆ he₆ ?_ ?_)⟩)))
 ·exact hs₆.extBut _ _ (Nat.ne_of_gt hil) (hs₅.extBut _ _ (Nat.ne_of_gt hil) (hs₄.extBut _ _ (Nat.ne_of_gt hil) (hs₃.extBut _ _ (Nat.ne_of_gt hil) ht₂)))
 ·exact λ b o hb e=>hs₆.extBut b o hb (hs₅.extBut b o hb (hs₄.extBut b o hb (hs₃.extBut b o hb (hk₂ b o hb e))))
theorem Aha {i:Nat}{ok ov:Value}{Q:Option Value->Shared->Prop}(hh:A.handled=none) (hit:IsItemIter s.heap it d i es.size ep ok ov) (x:U6 s.heap d es ep) (hx:es[i]?=none)
  (hQ:∀ h',Heap.ExtBut it s.heap h'->Q none { s with heap:=h' }):wpAny (model prog w) A (pyNext (.ref it)) Q E s:=by
 obtain⟨od,hod,hcd,hdd⟩:=x
 have hT:s.TypeIs (.ref it) "dict_itemiterator":=⟨_,hit,rfl⟩
 unfold pyNext
 refine wpAny_bind (wpAny_attempt (wpAny_callSpecial?_slot (name:=Str.ofString "__next__") hT F.slot_dict_itemiterator_next
  (wpAny_call_entry F.slot_dict_itemiterator_next hT F.entry_dict_itemiterator_next ?_ (F.args_dict_itemiterator_next_1 _))))
 refine wpAny_bind (wpAny_pure (wpAny_bind (wpAny_bind ?_)))
 first|refine wpAny_bind (wpAny_typeNameOfWhole_itemiter hT (wpAny_pure ?_))|refine wpAny_bind (wpAny_typeNameOf_itemiter hT (wpAny_pure ?_))
 refine wpAny_bind (wpAny_fieldsOf hit rfl ?_)
 simp only [show Builtin.Dict_items.ownsTuple "dict_itemiterator"=true by decide,if_true]
 show wpAny _ _ (if (Value.ref d == Value.none)=true then _ else _) _ _ s
 rw [if_neg (show ¬ ((Value.ref d == Value.none)=true) from Bool.false_ne_true)]
 refine wpAny_bind (wpAny_pure (wpAny_bind (wpAny_dictEntries hod hdd ?_)))
 rw [if_neg (by simp)]
 refine wpAny_bind (wpAny_pure (wpAny_bind (wpAny_dictEpoch hod hdd ?_)))
 rw [if_neg (by simp)]
 refine wpAny_pure ?_
 simp only [show ¬ ((i:Int)<0) from by omega,if_false,Int.toNat_natCast,hx]
 refine wpAny_bind ?_
 first|refine wpAny_bind (wpAny_typeNameOfWhole_itemiter hT (wpAny_pure ?_))|refine wpAny_bind (wpAny_typeNameOf_itemiter hT (wpAny_pure ?_))
 show wpAny _ _ (setField (.ref it) 2 .none >>= _) _ _ s
 refine wpAny_bind (wpAny_setField hit rfl (by simp) ?_)
 show wpAny _ _ (newExc (.type "StopIteration") [] >>= _) _ _ _
 refine wpAny_bind ?_
 simp only [newExc,newTuple]
 refine wpAny_bind (wpAny_newObj_type ?_ (by size_fits))
 refine wpAny_bind (m:=firstArgMember _ _) (wpAny_of_eq (a:=Value.none) (by first|rfl|(simp only [firstArgMember];rfl)) (wpAny_newObj_type ?_ (by size_fits)))
 simp only [raiseNew]
 refine wpAny_bind (wpAny_handled ?_)
 rw [show A.in1.handled=none from hh]
 refine wpAny_bind (wpAny_pure (wpAny_throw ?_))
 refine wpAny_bind (wpAny_isInstance (T:="StopIteration") (b:=true) ⟨_,Heap.get?_push_size _ rfl,rfl⟩ isSubtype_stop ?_)
 exact wpAny_pure (hQ _ (((Heap.SameBut.update ..).extBut.push _).push _))
theorem Ae3 {i:Nat}{e:DictEntry}{Q:Option Value->Shared->Prop}(hit:s.heap.IsValIter it d i es.size ep) (x:U6 s.heap d es ep) (hx:es[i]?=some e)
  (q:∀ h',h'.IsValIter it d (i+1) es.size ep->Heap.SameBut it s.heap h'->Q (some e.val) { s with heap:=h' }):wpAny (model prog w) A (pyNext (.ref it)) Q E s:=by
 obtain⟨o,ho,hc,hd⟩:=id hit
 obtain⟨od,hod,hcd,hdd⟩:=x
 have ht:=hit.typeIs
 unfold pyNext
 refine wpAny_bind (wpAny_attempt (wpAny_callSpecial?_slot (name:=Str.ofString "__next__") ht F.slot_dict_valueiterator_next
  (wpAny_call_entry F.slot_dict_valueiterator_next ht F.entry_dict_valueiterator_next ?_ (F.args_dict_valueiterator_next_1 _))))
 refine wpAny_bind (wpAny_pure (wpAny_bind (wpAny_bind ?_)))
 first|refine wpAny_bind (wpAny_typeNameOfWhole_valiter ht (wpAny_pure ?_))|refine wpAny_bind (wpAny_typeNameOf_valiter ht (wpAny_pure ?_))
 refine wpAny_bind (wpAny_fieldsOf ho hd ?_)
 simp only [show Builtin.Dict_items.ownsTuple "dict_valueiterator"=false by decide,Bool.false_eq_true,if_false]
 show wpAny _ _ (if (Value.ref d == Value.none)=true then _ else _) _ _ s
 rw [if_neg (show ¬ ((Value.ref d == Value.none)=true) from Bool.false_ne_true)]
 refine wpAny_bind (wpAny_pure (wpAny_bind (wpAny_dictEntries hod hdd ?_)))
 rw [if_neg (by simp)]
 refine wpAny_bind (wpAny_pure (wpAny_bind (wpAny_dictEpoch hod hdd ?_)))
 rw [if_neg (by simp)]
 refine wpAny_pure ?_
 simp only [show ¬ ((i:Int)<0) from by omega,if_false,Int.toNat_natCast,hx]
 refine wpAny_bind ?_
 first|refine wpAny_bind (wpAny_typeNameOfWhole_valiter ht (wpAny_pure ?_))|refine wpAny_bind (wpAny_typeNameOf_valiter ht (wpAny_pure ?_))
 refine wpAny_bind (wpAny_isOneOf_valiter ht ?_)
 show wpAny _ _ (setField (.ref it) 1 (rawInt ((i:Int)+1)) >>= _) _ _ s
 refine wpAny_bind (wpAny_setField ho hd (by simp) ?_)
 have hit':(s.heap.update it (Obj.mapFields (·.setIfInBounds 1 (rawInt ((i:Int)+1))))).IsValIter it d (i+1) es.size ep :=
  ⟨_,Heap.get?_update_self _ ho (Obj.isFreed_of_fields (Obj.data_mapFields hd _)),(Obj.cls_mapFields ..).trans hc,by rw [Obj.data_mapFields hd];simp [rawInt]⟩
 refine wpAny_bind (wpAny_holding (wpAny_bind (wpAny_isOneOf_valiter (s:={ s with heap:=s.heap.update it (Obj.mapFields (·.setIfInBounds 1 (rawInt ((i:Int)+1)))) }) hit'.typeIs
  (wpAny_bind (wpAny_isOneOf_valiter (s:={ s with heap:=s.heap.update it (Obj.mapFields (·.setIfInBounds 1 (rawInt ((i:Int)+1)))) }) hit'.typeIs ?_)))))
 show wpAny _ _ (pure e.val) _ _ _
 exact wpAny_pure (wpAny_pure ⟨_,rfl,wpAny_pure (q _ hit' (Heap.SameBut.update ..))⟩)
theorem Ag6 {i:Nat}{Q:Option Value->Shared->Prop}(hh:A.handled=none) (hit:s.heap.IsValIter it d i es.size ep) (x:U6 s.heap d es ep) (hx:es[i]?=none) (q:∀ h',Heap.ExtBut it s.heap h'->Q none { s with heap:=h' }):wpAny (model prog w) A (pyNext (.ref it)) Q E s:=by
 obtain⟨o,ho,hc,hd⟩:=id hit
 obtain⟨od,hod,hcd,hdd⟩:=x
 have ht:=hit.typeIs
 unfold pyNext
 refine wpAny_bind (wpAny_attempt (wpAny_callSpecial?_slot (name:=Str.ofString "__next__") ht F.slot_dict_valueiterator_next
  (wpAny_call_entry F.slot_dict_valueiterator_next ht F.entry_dict_valueiterator_next ?_ (F.args_dict_valueiterator_next_1 _))))
 refine wpAny_bind (wpAny_pure (wpAny_bind (wpAny_bind ?_)))
 first|refine wpAny_bind (wpAny_typeNameOfWhole_valiter ht (wpAny_pure ?_))|refine wpAny_bind (wpAny_typeNameOf_valiter ht (wpAny_pure ?_))
 refine wpAny_bind (wpAny_fieldsOf ho hd ?_)
 simp only [show Builtin.Dict_items.ownsTuple "dict_valueiterator"=false by decide,Bool.false_eq_true,if_false]
 show wpAny _ _ (if (Value.ref d == Value.none)=true then _ else _) _ _ s
 rw [if_neg (show ¬ ((Value.ref d == Value.none)=true) from Bool.false_ne_true)]
 refine wpAny_bind (wpAny_pure (wpAny_bind (wpAny_dictEntries hod hdd ?_)))
 rw [if_neg (by simp)]
 refine wpAny_bind (wpAny_pure (wpAny_bind (wpAny_dictEpoch hod hdd ?_)))
 rw [if_neg (by simp)]
 refine wpAny_pure ?_
 simp only [show ¬ ((i:Int)<0) from by omega,if_false,Int.toNat_natCast,hx]
 refine wpAny_bind ?_
 first|refine wpAny_bind (wpAny_typeNameOfWhole_valiter ht (wpAny_pure ?_))|refine wpAny_bind (wpAny_typeNameOf_valiter ht (wpAny_pure ?_))
 show wpAny _ _ (setField (.ref it) 0 .none >>= _) _ _ s
 refine wpAny_bind (wpAny_setField ho hd (by simp) ?_)
 show wpAny _ _ (newExc (.type "StopIteration") [] >>= _) _ _ _
 refine wpAny_bind ?_
 simp only [newExc,newTuple]
 refine wpAny_bind (wpAny_newObj_type ?_ (by size_fits))
 refine wpAny_bind (m:=firstArgMember _ _) (wpAny_of_eq (a:=Value.none) (by first|rfl|(simp only [firstArgMember];rfl)) (wpAny_newObj_type ?_ (by size_fits)))
 simp only [raiseNew]
 refine wpAny_bind (wpAny_handled ?_)
 rw [show A.in1.handled=none from hh]
 refine wpAny_bind (wpAny_pure (wpAny_throw ?_))
 refine wpAny_bind (wpAny_isInstance (T:="StopIteration") (b:=true) ⟨_,Heap.get?_push_size _ rfl,rfl⟩ isSubtype_stop ?_)
 exact wpAny_pure (q _ (((Heap.SameBut.update ..).extBut.push _).push _))
end
noncomputable def Itv (a:Addr) (o:Obj) (kvs:List (List Key × V)):It :=
 ⟨λ i H=>H a=some (.frz o (.dT kvs))/\i<kvs.length,λ i H x H'=>H'=H/\∃ k v,kvs[i]?=some (k,v)/\x=v,λ i H=>H a=some (.frz o (.dT kvs))/\kvs.length<=i⟩
noncomputable def Iti (a:Addr) (o:Obj) (kvs:List (List Key × V)):It :=
 ⟨λ i H=>H a=some (.frz o (.dT kvs))/\i<kvs.length,λ i H x H'=>∃ T k v b,kvs[i]?=some (k,v)/\x=.ref T/\H T=none/\H b=some (.tup (k.map kV))/\H'=upd H T (.tup [.ref b,v]),λ i H=>H a=some (.frz o (.dT kvs))/\kvs.length<=i⟩
theorem Afb {P:Program}{w:World}{K:PySem.W.Frag}{tg:Expr}(a it:Addr) (o:Obj) (kvs:List (List Key × V)) (hx:o.ExactDict) (es:Array DictEntry) (ep:Nat) (hd:o.data=.dict es ep):Turn P w K tg (Itv a o kvs) [it] it (λ i h=>h.IsValIter it a i es.size ep) where
 mem:=by simp
 obj:=λ i h st b hb=>by
  have e:b=it:=by simpa using hb
  subst e
  obtain⟨o,e,c,d⟩:=st
  exact⟨o,e,λ v z=>by rw [d] at z;cases z⟩
 keep:=λ i h h' st k=>st.at λ o e=>k it (by simp) o e
 item:=by
  intro X hP hw hK hc i pins s σ H E I hf st hg
  subst hP hw hK
  obtain⟨f0,f1,f2,f3,f4,f5⟩:=hf it (by simp)
  obtain⟨g,_,es',ep',d',l',ent⟩:=Io I hg.1
  rw [hd] at d';cases d'
  have hi:i<es.size:=by rw [l'];exact hg.2
  obtain⟨k,v,b,e1,e2,e3,e4⟩:=ent i es[i] (by simp [hi])
  refine Ae3 st ⟨o,g,hx,hd⟩ (e:=es[i]) (by simp [hi]) λ h' st' sb=>?_
  have I1:Inv X pins σ H { s with heap:=h' }:=I.turned (t':=s.toks) (λ b o hb e=>(sb.2 b hb).trans e) f0 f1 f3 f4 f5
  obtain⟨oi,e,c,d⟩:=id st'
  exact⟨_,rfl,Ahc (s:={ s with heap:=h' }) e c d (by decide) ⟨v,H,I1,e3,⟨rfl,k,v,e1,rfl⟩,st',λ b hb=>(hf b hb).1⟩⟩
 done:=by
  intro X hP hw hK hc i pins s σ H E I hf st hg
  subst hP hw hK
  obtain⟨f0,f1,f2,f3,f4,f5⟩:=hf it (by simp)
  obtain⟨g,_,es',ep',d',l',ent⟩:=Io I hg.1
  rw [hd] at d';cases d'
  exact Ag6 (I.ok.hd hc) st ⟨o,g,hx,hd⟩ (by simp;rw [l'];exact hg.2) λ h' eb=>⟨rfl,I.turned (t':=s.toks) (λ b o hb e=>eb b o hb e) f0 f1 f3 f4 f5⟩
 self:=λ _ _ _ _ _ st h=>wpAny_pyIter_valiter st h
theorem Abs {prog:Program}{w:World}{A:Around}{E:Value->Shared->Prop}{s:Shared}{it d:Addr}{i n ep:Nat}{ok ov:Value}{Q:Value->Shared->Prop}(hit:IsItemIter s.heap it d i n ep ok ov) (h:Q (.ref it) s):wpAny (model prog w) A (pyIter (.ref it)) Q E s:=by
 have hT:s.TypeIs (.ref it) "dict_itemiterator":=⟨_,hit,rfl⟩
 refine wpAny_pyIter_slot hT F.slot_dict_itemiterator_iter (wpAny_call_entry F.slot_dict_itemiterator_iter hT PySem.W.kcp_entry ?_ (F.args_dict_itemiterator_iter_1 _))
 show wpAny _ _ (ret (.ref it)) _ _ s
 exact wpAny_pure ⟨_,rfl,"dict_itemiterator",_,hT,F.slot_dict_itemiterator_next.lookup,h⟩
theorem Aa6 {P:Program}{w:World}{K:PySem.W.Frag}{elts:List Expr}{tk:Nat}{tpos:Pos}(a it:Addr) (o:Obj) (kvs:List (List Key × V)) (hx:o.ExactDict) (es:Array DictEntry) (ep:Nat) (hd:o.data=.dict es ep) :
  Turn P w K (.Tuple elts tk tpos) (Iti a o kvs) [it] it (λ i h=>∃ ok ov,IsItemIter h it a i es.size ep ok ov) where
 mem:=by simp
 obj:=λ i h st b hb=>by
  have e:b=it:=by simpa using hb
  subst e
  obtain⟨ok,ov,e⟩:=st
  exact⟨_,e,λ v z=>by cases z⟩
 keep:=λ i h h' st k=>by obtain⟨ok,ov,e⟩:=st;exact⟨ok,ov,k it (by simp) _ e⟩
 item:=by
  intro X hP hw hK hc i pins s σ H E I hf st hg
  subst hP hw hK
  obtain⟨f0,f1,f2,f3,f4,f5⟩:=hf it (by simp)
  obtain⟨g,_,es',ep',d',l',ent⟩:=Io I hg.1
  rw [hd] at d';cases d'
  have hi:i<es.size:=by rw [l'];exact hg.2
  obtain⟨k,v,b,e1,e2,e3,e4⟩:=ent i es[i] (by simp [hi])
  obtain⟨ok,ov,st⟩:=st
  have hil:it<s.heap.objs.size:=Heap.lt_size st
  refine Adm st ⟨o,g,hx,hd⟩ (e:=es[i]) (by simp [hi]) λ h' st' hT hk=>⟨_,rfl,?_⟩
  refine wpAny_letOwnedTupleGo_items st' λ h'' st'' hs''=>?_
  have nT:H s.heap.objs.size=none:=I.hok.fresh (Nat.le_refl _)
  have hT':=hs''.extBut _ _ (Nat.ne_of_gt hil) hT
  have I':Inv X pins σ (upd H s.heap.objs.size (.tup [.ref b,v])) { s with heap:=h'',toks:=s.toks }:=Tw I hf (λ c o hc e=>by
    have hc:c≠it:=by simpa using hc
    exact hs''.extBut c o hc (hk c o hc e)) (Nat.le_refl _)
   ⟨by rw [sizeLine_eq];simp,[es[i].key,es[i].val],.cons e2 (.cons e3 .nil),_,hT',rfl,0,rfl⟩
  exact⟨.ref s.heap.objs.size,_,I',rfl,⟨_,k,v,b,e1,rfl,nT,e4,rfl⟩,⟨_,_,st''⟩,λ c hc=>by
   have hc:c=it:=by simpa using hc
   subst hc
   rw [Al (Nat.ne_of_lt hil)];exact f0⟩
 done:=by
  intro X hP hw hK hc i pins s σ H E I hf st hg
  subst hP hw hK
  obtain⟨f0,f1,f2,f3,f4,f5⟩:=hf it (by simp)
  obtain⟨g,_,es',ep',d',l',ent⟩:=Io I hg.1
  rw [hd] at d';cases d'
  obtain⟨ok,ov,st⟩:=st
  exact Aha (I.ok.hd hc) st ⟨o,g,hx,hd⟩ (by simp;rw [l'];exact hg.2) λ h' eb=>⟨rfl,I.turned (t':=s.toks) (λ b o hb e=>eb b o hb e) f0 f1 f3 f4 f5⟩
 self:=λ _ _ _ _ _ st h=>by obtain⟨ok,ov,st⟩:=st;exact Abs st h
noncomputable def Ayi (tl:TE):TI:=λ σ H R=>tl σ H λ x H1=>∃ a o kvs,x=.ref a/\H1 a=some (.frz o (.dT kvs))/\R (Itv a o kvs) H1
noncomputable def Ay2 (tl:TE):TI:=λ σ H R=>tl σ H λ x H1=>∃ a o kvs,x=.ref a/\H1 a=some (.frz o (.dT kvs))/\R (Iti a o kvs) H1
section
variable {X:Cx}{G:Fc}{o tg:Expr}{apos cpos tpos:Pos}{elts:List Expr}{tk:Nat}{tl:TE}
theorem Ajy (ho:PE X o tl) (hbase:attributeBase o "values" X.env (eval o X.env)=eval o X.env:=by rfl) (hline:(apos.endLine == cpos.line)=true:=by rfl):PI X tg (.Call (.Attribute o "values" apos) [] [] cpos) (Ayi tl):=by
 intro pins s σ H R I h
 refine wpAny_Call_method0_late hbase hline (thn (ho pins s σ H _ I h) ?_)
 rintro v s1 ⟨x,H1,I1,r1,q1⟩
 obtain⟨a,ob,kvs,rfl,e2,q2⟩:=q1
 cases r1
 obtain⟨g,hx,es,ep,hd,l,ent⟩:=Io I1 e2
 have lo:(a == sysModules)=false:=((I1.hok a _ e2).2).2.1
 have rw0:U6 s1.heap a es ep:=⟨ob,g,hx,hd⟩
 refine⟨"dict","dict.values",F.plainAttrs_dict,F.slot_dict_values,F.type_dict_values,rw0.type,λ b eb=>by cases eb;exact⟨ob,g,hx.2.1⟩,Calls.callWith_builtin rfl (PySem.evalArgs_none (Abp lo rw0 ?_))⟩
 refine Afp (d:=a) (es:=es) (ep:=ep) ⟨_,Heap.get?_push_size _ rfl,rfl,rfl⟩ (rw0.at λ o e=>Heap.get?_push_of_some _ e) ?_
 have I2:=I1.kept (h':=s1.heap.push { cls:=.type "dict_values",data:=.fields #[.ref a] }) (t':=s1.toks) λ b o e=>Heap.get?_push_of_some _ e
 refine⟨_,[_],_,_,H1,rfl,I2.kept (t':=s1.toks) λ b o e=>Heap.get?_push_of_some _ e,Afb a _ ob kvs hx es ep hd,⟨_,Heap.get?_push_size _ rfl,rfl,rfl⟩,λ b hb=>?_,q2⟩
 have e:=List.mem_singleton.mp hb
 subst e
 exact I2.fpOk (Nat.le_refl _) (I2.hok.fresh (Nat.le_refl _))
theorem Agr (ho:PE X o tl) (hbase:attributeBase o "items" X.env (eval o X.env)=eval o X.env:=by rfl) (hline:(apos.endLine == cpos.line)=true:=by rfl):PI X (.Tuple elts tk tpos) (.Call (.Attribute o "items" apos) [] [] cpos) (Ay2 tl):=by
 intro pins s σ H R I h
 refine wpAny_Call_method0_late hbase hline (thn (ho pins s σ H _ I h) ?_)
 rintro v s1 ⟨x,H1,I1,r1,q1⟩
 obtain⟨a,ob,kvs,rfl,e2,q2⟩:=q1
 cases r1
 obtain⟨g,hx,es,ep,hd,l,ent⟩:=Io I1 e2
 have lo:(a == sysModules)=false:=((I1.hok a _ e2).2).2.1
 have rw0:U6 s1.heap a es ep:=⟨ob,g,hx,hd⟩
 refine⟨"dict","dict.items",F.plainAttrs_dict,F.slot_dict_items,F.type_dict_items,rw0.type,λ b eb=>by cases eb;exact⟨ob,g,hx.2.1⟩,Calls.callWith_builtin rfl (PySem.evalArgs_none (Ael lo rw0 ?_))⟩
 refine Aeo (d:=a) (es:=es) (ep:=ep) ⟨_,Heap.get?_push_size _ rfl,rfl,rfl⟩ (rw0.at λ o e=>Heap.get?_push_of_some _ e) ?_
 have I2:=I1.kept (h':=s1.heap.push { cls:=.type "dict_items",data:=.fields #[.ref a] }) (t':=s1.toks) λ b o e=>Heap.get?_push_of_some _ e
 refine⟨_,[_],_,_,H1,rfl,I2.kept (t':=s1.toks) λ b o e=>Heap.get?_push_of_some _ e,Aa6 a _ ob kvs hx es ep hd,⟨_,_,Heap.get?_push_size _ rfl⟩,λ b hb=>?_,q2⟩
 have e:=List.mem_singleton.mp hb
 subst e
 exact I2.fpOk (Nat.le_refl _) (I2.hok.fresh (Nat.le_refl _))
noncomputable def iDv (m:EV):Ev->R (List D):=λ E=>m E >>= λ d=>match d with
 | .dic kvs=>.ok (kvs.map λ kv=>kv.2)
 | _=>.no
noncomputable def iDi (m:EV):Ev->R (List D):=λ E=>m E >>= λ d=>match d with
 | .dic kvs=>.ok (kvs.map λ kv=>.tup [kT kv.1,kv.2])
 | _=>.no
theorem Afx {m:EV}(gd:Gd X) (h:SF X G o m) (hbase:attributeBase o "values" X.env (eval o X.env)=eval o X.env:=by rfl) (hline:(apos.endLine == cpos.line)=true:=by rfl):SI X G tg (.Call (.Attribute o "values" apos) [] [] cpos) (iDv m) :=
 (Ajy h hbase hline).imp λ σ H Q z0=>z0.elim λ E z0=>z0.elim λ hr f=>⟨E,hr,(Fin.bind f).mono λ d p v H1 s1 z=>by
 cases d with
 | dic kvs =>
  unfold Rp at z
  obtain⟨a,ws,rfl,no,⟨o,ha⟩,rs⟩:=z
  refine⟨a,o,ws,rfl,ha,p _ H1 s1 λ G' E' σ' H' le r'=>?_⟩
  have hl':=(locked le r' _ _ no ha).1
  refine⟨⟨hl',by simp [rs.length]⟩,λ i d hd=>?_⟩
  rw [List.getElem?_map,Option.map_eq_some_iff] at hd
  obtain⟨kd,e1,rfl⟩:=hd
  obtain⟨v,e2,pv⟩:=rs.at e1
  refine⟨⟨hl',(List.getElem?_eq_some_iff.mp e2).1⟩,λ x H'' ⟨e,k,v',e3,e4⟩=>?_⟩
  subst e e4
  rw [e2] at e3;cases e3
  exact⟨Same.refl _,pv.move (locked le r')⟩
 | _=>exact p.elim⟩
theorem N8 {m:EV}(gd:Gd X) (h:SF X G o m) (hbase:attributeBase o "items" X.env (eval o X.env)=eval o X.env:=by rfl) (hline:(apos.endLine == cpos.line)=true:=by rfl):SI X G (.Tuple elts tk tpos) (.Call (.Attribute o "items" apos) [] [] cpos) (iDi m) :=
 (Agr h hbase hline).imp λ σ H Q z0=>z0.elim λ E z0=>z0.elim λ hr f=>⟨E,hr,(Fin.bind f).mono λ d p v H1 s1 z=>by
 cases d with
 | dic kvs =>
  unfold Rp at z
  obtain⟨a,ws,rfl,no,⟨o,ha⟩,rs⟩:=z
  refine⟨a,o,ws,rfl,ha,p _ H1 s1 λ G' E' σ' H' le r'=>?_⟩
  have hl':=(locked le r' _ _ no ha).1
  refine⟨⟨hl',by simp [rs.length]⟩,λ i d hd=>?_⟩
  rw [List.getElem?_map,Option.map_eq_some_iff] at hd
  obtain⟨kd,e1,rfl⟩:=hd
  obtain⟨v,e2,pv⟩:=rs.at e1
  refine⟨⟨hl',(List.getElem?_eq_some_iff.mp e2).1⟩,λ x H'' ⟨T,k,v',b,e3,e4,nT,hb,e5⟩=>?_⟩
  subst e4 e5
  rw [e2] at e3;cases e3
  have sm:=Av (o:=.tup [.ref b,v]) nT
  refine⟨sm,?_⟩
  unfold Rp
  refine⟨T,[.ref b,v],rfl,r'.fresh nT,Aj,Rps.cons ((Ade r'.sane hb).mono sm λ _ z=>z) (Rps.cons ((pv.move (locked le r')).mono sm λ _ z=>z) Rps.nil)⟩
 | _=>exact p.elim⟩
end
noncomputable def At8 (a b c:EV):EV:=λ E=>a E >>= λ x=>match x with
 | .dic kvs=>b E >>= λ y=>c E >>= λ z=>ofO ((keyOf y).map λ ks=>(Aan kvs ks).getD z)
 | _=>.no
section
variable {X:Cx}{G:Fc}{o k z:Expr}{mo mk mz:EV}{apos cpos:Pos}
theorem Zt (gd:Gd X) (ho:SE X G o mo) (hk:SE X G k mk) (hz:SF X G z mz) (m:L2.M2 X o "get" apos k z cpos:=by exact⟨rfl,rfl,rfl,rfl⟩):SF X G (.Call (.Attribute o "get" apos) [k,z] [] cpos) (At8 mo mk mz) :=
 (Ahj (hu1 gd) ho hk hz m).imp λ σ H Q z0=>z0.elim λ E z0=>z0.elim λ hr f=>⟨E,hr,(Fin.bind f).mono λ dx fx v H1 s1 p1=>by
  cases dx with
  | dic kvs =>
   obtain⟨a,ws,rfl,ha,rk⟩:=id p1.dic
   refine⟨a,rfl,.inr ⟨ws,ha⟩,E,hr.same s1,(Fin.bind fx).mono λ dy fy w H2 s2 p2=>⟨E,(hr.same s1).same s2,(Fin.bind fy).mono λ dz fz u H3 s3 p3=>?_⟩⟩
   obtain⟨d,e,p⟩:=Fin.of fz
   simp only [Option.map_eq_some_iff] at e
   obtain⟨ks,e1,rfl⟩:=e
   obtain⟨b,rfl,hb⟩:=Iv e1 (p2.mono s3 λ _ z=>z)
   obtain⟨a',ws',ea,ha',rk'⟩:=(p1.mono (s2.trans s3) λ _ z=>z).dic
   cases ea
   have g:=rk'.get ks
   refine⟨_,Xe ha' hb,p _ H3 ((s1.trans s2).trans s3) ?_⟩
   cases q:Aan kvs ks with
   | none=>rw [q] at g;dsimp only at g;rw [g];exact p3
   | some d'=>rw [q] at g;obtain⟨v',g1,g2⟩:=g;rw [g1];exact g2
  | _=>exact fx.elim⟩
end
noncomputable def small:List (List Int):=(List.range 9).flatMap λ a=>(List.range 9).map λ b=>[Int.ofNat a,Int.ofNat b]
noncomputable def hsh (k:List Int):Int:=reduceHash (Builtin.Tuple.tupleHashOf (k.map hashInt))
theorem Aoz:(small.map hsh).Nodup:=by decide +kernel
theorem Ajl {prog:Program}{w:World}(k:List Int):tupleKeyHash (Cr prog w) (k.map (Sum.inl:Int->Key))=hsh k:=by
 unfold tupleKeyHash hsh
 rw [List.map_map];rfl
theorem Amo {a b:List Int}(ha:a∈small) (hb:b∈small) (e:hsh a=hsh b):a=b:=by
 have key:∀ (l:List (List Int)),(l.map hsh).Nodup->a∈l->b∈l->a=b:=by
  intro l
  induction l with
  | nil=>intro _ h _;simp at h
  | cons x r ih =>
   intro n h1 h2
   rw [List.map_cons,List.nodup_cons] at n
   rcases List.mem_cons.mp h1 with e1|h1'
   ·rcases List.mem_cons.mp h2 with e2|h2'
    ·rw [e1,e2]
    ·exact absurd (List.mem_map.mpr ⟨b,h2',by rw [<-e,e1]⟩) n.1
   ·rcases List.mem_cons.mp h2 with e2|h2'
    ·exact absurd (List.mem_map.mpr ⟨a,h1',by rw [e,e2]⟩) n.1
    ·exact ih n.2 h1' h2'
 exact key small Aoz ha hb
section
variable {prog:Program}{w:World}{A:Around}{E:Value->Shared->Prop}{s:Shared}{d:Addr}{o:Obj}{es:Array DictEntry}{ep:Nat}
theorem Abm {id:String}{Q:Array DictEntry->Shared->Prop}(ho:s.heap.get? d=some o) (hd:o.data=.dict es ep) (hk:∀ e∈es.toList,∃ b,e.key=.ref b/\s.TypeIs (.ref b) "tuple")
  (hh:∀ e∈es.toList,¬ (es.filter (·.hash == e.hash)).size > 1) (h:Q es s):wpAny (model prog w) A (Builtin.Dict.entriesForEmpty id d) Q E s:=by
 unfold Builtin.Dict.entriesForEmpty
 refine wpAny_bind (wpAny_dictEntries ho hd (wpAny_bind ?_))
 rw [<-Array.forIn_toList]
 refine wpAny_forIn_list _ (λ rest _ s'=>s'=s/\∀ e∈rest,e∈es.toList) _ ?_ ?_ _ _ ⟨rfl,λ e he=>he⟩
 ·rintro x rest b s' ⟨rfl,hr⟩
  obtain⟨b,e1,hT⟩:=hk x (hr x (by simp))
  refine wpAny_bind ?_
  rw [e1]
  unfold Builtin.Dict.quietEq
  refine wpAny_bind (wpAny_specialOf hT F.slot_tuple_eq.lookup (wpAny_pure ?_))
  have:=hh x (hr x (by simp))
  simp only [this,if_false]
  split<;>exact wpAny_pure ⟨rfl,λ e he=>hr e (by simp [he])⟩
 ·rintro b s' ⟨rfl,_⟩
  exact wpAny_pure h
end
def Ai0:List V->Hp->VK->Prop:=λ xs H Q=>∃ (p:Addr) (kvs:List (List Key × V)),xs=[.ref p]/\Rd H p (.dT kvs)/\(∀ kv∈kvs,∃ k∈small,kv.1=k.map Sum.inl)/\∀ l,H l=none->Q (.ref l) (upd H l (.dT kvs))
theorem Aby {es:Array DictEntry}{hs:List Int}(e:es.toList.map (·.hash)=hs) (n:hs.Nodup) (x:DictEntry):¬ (es.filter (·.hash == x.hash)).size > 1:=by
 have key:∀ (l:List DictEntry),(l.map (·.hash)).Nodup->(l.filter (·.hash == x.hash)).length<=1:=by
  intro l
  induction l with
  | nil=>intro _;simp
  | cons y r ih =>
   intro n
   rw [List.map_cons,List.nodup_cons] at n
   by_cases hy:(y.hash == x.hash)=true
   ·have:r.filter (·.hash == x.hash)=[]:=by
     rw [List.filter_eq_nil_iff]
     intro z hz hzx
     refine n.1 (List.mem_map.mpr ⟨z,hz,?_⟩)
     rw [beq_iff_eq] at hy hzx
     rw [hy,hzx]
    rw [List.filter_cons,if_pos hy,this];simp
   ·rw [List.filter_cons,if_neg hy];exact ih n.2
 have:=key es.toList (by rw [e];exact n)
 rw [<-Array.length_toList,Array.toList_filter]
 omega
section
variable {X:Cx}
theorem Acm:Fy X (.type "dict") Ai0:=by
 intro pins s σ H xs us Q I r h
 obtain⟨p,kvs,rfl,hp,hk,q⟩:=h
 obtain⟨u,rfl,ru⟩:=vals1 r
 cases ru
 obtain⟨z,lo,ys,rl,o,es,ep,g1,g2,g3,g4,g5⟩:=(show Ea X.prog X.w H s.heap p (.dT kvs) from hp.elim (λ h=>I.hok p _ h) λ ⟨_,h⟩=>(show _/\_ from I.hok p _ h).2)
 have hn:=I.hok.fresh (Nat.le_refl s.heap.objs.size)
 have hdo:s.heap.objs.size≠p:=λ e=>absurd (Heap.lt_size g1) (by rw [e];exact Nat.lt_irrefl _)
 have lz:es.size=kvs.length:=by
  have:=congrArg List.length g4
  simp only [Array.length_toList,List.length_map] at this
  rw [this];exact (Paired.length rl).symm
 refine callType_codes (Q₁:=λ obj s₁=>obj=.ref s.heap.objs.size/\s₁={ s with heap:=s.heap.push { cls:=.type "dict",data:=.dict #[] } }) F.kt_called_dict (F.kt_typeCall_dict_1 _) F.entry_dict_init (kt_code_dict_new _ ⟨rfl,rfl⟩) ?_
 rintro obj s₁ ⟨rfl,rfl⟩
 have gD:(s.heap.push { cls:=.type "dict",data:=.dict #[] }).get? s.heap.objs.size=some { cls:=.type "dict",data:=.dict #[] }:=Heap.get?_push_size _ rfl
 have gP:(s.heap.push { cls:=.type "dict",data:=.dict #[] }).get? p=some o:=Heap.get?_push_of_some _ g1
 have hdT:({ s with heap:=s.heap.push { cls:=.type "dict",data:=.dict #[] } }:Shared).TypeIs (.ref s.heap.objs.size) "dict":=⟨_,gD,rfl⟩
 have hpT:({ s with heap:=s.heap.push { cls:=.type "dict",data:=.dict #[] } }:Shared).TypeIs (.ref p) "dict":=⟨_,gP,g2.1⟩
 have ent:∀ e∈es.toList,∃ y∈ys,e=entryOfKey (tupleKind (Cr X.prog X.w)) y:=λ e he=>by
  rw [g4] at he
  obtain⟨y,hy,rfl⟩:=List.mem_map.mp he
  exact⟨y,hy,rfl⟩
 refine⟨hdT,F.args_dict_init_2 _ _,?_⟩
 unfold Builtin.«dict.__init__»
 refine wpAny_bind ?_
 unfold Builtin.Dict.selfAndRest
 refine wpAny_bind (wpAny_notOrdered_dict hdT ?_)
 show wpAny _ _ (pure (s.heap.objs.size,[Value.ref p])) _ _ _
 refine wpAny_pure ?_
 show wpAny _ _ (Builtin.Dict.updateFrom "dict.__init__" s.heap.objs.size (.ref p) [] .none) _ _ _
 unfold Builtin.Dict.updateFrom
 refine wpAny_bind (wpAny_typeOf hpT ?_)
 rw [if_neg (by decide)]
 refine wpAny_bind ?_
 unfold Builtin.Dict.merge
 refine wpAny_bind ?_
 unfold Builtin.Dict.readDirectly
 refine wpAny_bind (wpAny_isInstance hpT isSubtype_dict_dict ?_)
 simp only [Bool.not_true,Bool.false_eq_true,if_false]
 refine wpAny_bind (wpAny_specialOf hpT F.slot_dict_iter.lookup (wpAny_pure ?_))
 simp only [beq_self_eq_true,if_true]
 refine wpAny_bind (wpAny_pure ?_)
 unfold Builtin.Dict.mergeDict
 rw [if_neg (by simpa using hdo)]
 unfold Builtin.Dict.showsAll
 rw [if_neg (by rw [lo];exact Bool.false_ne_true)]
 refine wpAny_bind (wpAny_pure (wpAny_bind (wpAny_dictEntries gP g3 ?_)))
 have fin:∀ h' o' ep',(∀ b ob,s.heap.get? b=some ob->h'.get? b=some ob)->h'.get? s.heap.objs.size=some o'->o'.ExactDict->o'.data=.dict es ep'->Inv X pins σ (upd H s.heap.objs.size (.dT kvs)) { s with heap:=h' }:=λ h' o' ep' keep n1 n2 n3 =>
  I.laid (a:=s.heap.objs.size) (o:=.dT kvs) (h':=h') (t':=s.toks) keep (Nat.le_refl _) ⟨z,beq_eq_false_iff_ne.mpr (Ne.symm (Nat.ne_of_lt I.big)),ys,Paired.imp' (λ a b hab=>⟨hab.1,by rw [Al (Bd hab.2.1 hn)];exact hab.2.1,hab.2.2⟩) rl,o',es,ep',n1,n2,n3,g4,g5⟩
 have kref:∀ e∈es.toList,∃ b,e.key=.ref b/\(∃ k,(k:List Key)∈kvs.map (·.1)/\H b=some (.tup (k.map kV))/\e.hash=tupleKeyHash (Cr X.prog X.w) k):=λ e he=>by
  obtain⟨y,hy,rfl⟩:=ent e he
  obtain⟨i,hi,ey⟩:=List.mem_iff_getElem.mp hy
  have hi':i<kvs.length:=by rw [Paired.length rl];exact hi
  obtain⟨y',e1,e2,e3,e4⟩:=Gg rl i kvs[i] (by simp [hi'])
  have:y'=y:=by
   have:ys[i]?=some y:=by rw [<-ey];simp [hi]
   rw [this] at e1;exact (Option.some.inj e1).symm
  subst this
  exact⟨y'.2.1,rfl,kvs[i].1,List.mem_map.mpr ⟨kvs[i],by simp,rfl⟩,e3,by rw [e2];rfl⟩
 dsimp only
 by_cases h0:es=#[]
 ·rw [if_neg (by subst h0;simp)]
  refine wpAny_bind (wpAny_dictEpoch gP g3 (wpAny_bind (wpAny_dictEntries gP g3 (wpAny_bind ?_))))
  rw [Std.Legacy.Range.forIn_eq_forIn_range']
  simp only [h0,Std.Legacy.Range.size,Nat.sub_zero,Nat.add_sub_cancel,Nat.div_one]
  refine wpAny_pure (wpAny_pure ?_)
  show wpAny _ _ (Builtin.Dict.addKeywords s.heap.objs.size [] >>= _) _ _ _
  exact wpAny_bind (wpAny_pure (wpAny_pure ⟨rfl,⟨.ref s.heap.objs.size,_,fin _ _ 0 (λ b ob hb=>Heap.get?_push_of_some _ hb) gD ⟨rfl,rfl,rfl⟩ (by rw [h0]),rfl,q _ hn⟩⟩))
 ·have few:(decide (es.size<=8) && es.all λ e=>(keyPart e.key).isSome)=false:=by
   cases hb:es.all (λ e=>(keyPart e.key).isSome) with
   | false=>simp
   | true =>
    exfalso
    have hz:0<es.size:=by
     rcases Nat.eq_zero_or_pos es.size with e|e
     ·exact absurd (Array.eq_empty_of_size_eq_zero e) h0
     ·exact e
    rw [Array.all_eq_true] at hb
    have h1:=hb 0 hz
    obtain⟨b,e1,_⟩:=kref es[0] (by simp)
    rw [e1] at h1
    simp [keyPart] at h1
  rw [few]
  simp only [Bool.not_false,if_true]
  refine wpAny_bind (wpAny_dictEntries gD rfl ?_)
  rw [if_pos (by decide)]
  refine wpAny_bind (Abm gP g3 ?_ ?_ ?_)
  ·intro e he
   obtain⟨b,e1,k,_,e3,_⟩:=kref e he
   obtain⟨_,its,rr,ob,t1,t2,_⟩:=(show Ea X.prog X.w H s.heap b (.tup (k.map kV)) from I.hok b _ e3)
   exact⟨b,e1,ob,Heap.get?_push_of_some _ t1,t2⟩
  ·intro e he
   refine Aby (hs:=ys.map λ y=>tupleKeyHash (Cr X.prog X.w) y.1) (by rw [g4,List.map_map];rfl) ?_ e
   have hy:∀ y∈ys,∃ k∈small,y.1=k.map Sum.inl:=λ y hy=>by
    obtain⟨i,hi,ey⟩:=List.mem_iff_getElem.mp hy
    have hi':i<kvs.length:=by rw [Paired.length rl];exact hi
    obtain⟨y',e1,e2,e3,e4⟩:=Gg rl i kvs[i] (by simp [hi'])
    have:y'=y:=by
     have:ys[i]?=some y:=by rw [<-ey];simp [hi]
     rw [this] at e1;exact (Option.some.inj e1).symm
    subst this
    rw [<-e2]
    exact hk kvs[i] (by simp)
   have nd:(ys.map (·.1)).Nodup:=g5
   rw [List.nodup_iff_pairwise_ne,List.pairwise_map] at nd ⊢
   refine List.Pairwise.imp_of_mem (λ {a b} ha hb hne e=>?_) nd
   obtain⟨k1,s1,e1⟩:=hy a ha
   obtain⟨k2,s2,e2⟩:=hy b hb
   rw [e1,e2,Ajl,Ajl] at e
   exact hne (by rw [e1,e2,Amo s1 s2 e])
  ·rw [if_pos (by simpa using h0)]
   refine wpAny_bind (wpAny_updateDictKeysTo gD rfl (wpAny_pure ?_) (by rw [lz];omega))
   show wpAny _ _ (Builtin.Dict.addKeywords s.heap.objs.size [] >>= _) _ _ _
   refine wpAny_bind (wpAny_pure (wpAny_pure ⟨rfl,⟨.ref s.heap.objs.size,_,fin _ _ 1 (λ b ob hb=>?_) (Heap.get?_update_self _ gD (Obj.isFreed_of_dict (Obj.data_mapDictKeys rfl _))) (Obj.ExactDict.mapDictKeys ⟨rfl,rfl,rfl⟩ _) (Obj.data_mapDictKeys rfl _),rfl,q _ hn⟩⟩))
   exact ((Heap.SameBut.update ..).extBut b ob (Nat.ne_of_lt (Heap.lt_size hb)) (Heap.get?_push_of_some _ hb))
end
noncomputable def Aaq:D->Option D
 | .dic kvs=>if (kvs.all λ kv=>decide (kv.1∈small))=true then some (.dic kvs) else none
 | _=>none
theorem Agx {K:PySem.W.Frag}:Ab6 K Ai0 Aaq:=λ H O dx d v Q fr e rx q=>by
 cases dx with
 | dic kvs =>
  simp only [Aaq] at e
  split at e
  ·rename_i hs
   cases e
   rw [List.all_eq_true] at hs
   obtain⟨a,ws,rfl,h1,r1⟩:=rx.dic
   refine⟨a,ws,rfl,h1,λ kv hkv=>?_,λ l hl=>q l _ (Av hl) hl ⟨_,Aj,(r1.fresh hl).mono (Av hl) λ _ z=>z⟩⟩
   have:kv.1∈ws.map (·.1):=List.mem_map.mpr ⟨kv,hkv,rfl⟩
   rw [r1.keys,List.mem_map] at this
   obtain⟨k,hk,ek⟩:=this
   obtain⟨kd,hkd,rfl⟩:=List.mem_map.mp hk
   exact⟨kd.1,by simpa using hs kd hkd,ek.symm⟩
  ·cases e
 | _=>cases e
section
variable {X:Cx}{G:Fc}{p pos:Pos}{e:Expr}{m:EV}
theorem Ahq (gd:Gd X) (hg:Gl X "dict") (hm:X.mg "dict"=none) (he:SE X G e m) (hs:starEach [e] X.env=(false,eval e X.env) :: starEach [] X.env:=by rfl) (hpl:(backTo pos (starEach [] X.env)).any (·.1)=false:=by rfl):SN X G (.Call (.Name "dict" p) [e] [] pos) (e1 Aaq m) :=
 T7 Acm Agx hg hm (by decide +kernel) he (hs:=hs) (hpl:=hpl)
end
end M
namespace M
open PySem PySem.Spec PyProof.Rows L2
theorem len1 {α:Type}:∀ {us:List α},us.length=1->∃ a,us=[a]
 | [a],_=>⟨a,rfl⟩
theorem len2 {α:Type}{us:List α}(h:us.length=2):∃ a b,us=[a,b]:=by
 cases us with
 | nil=>cases h
 | cons a us=>obtain⟨b,e⟩:=len1 (Nat.succ.inj h);exact⟨a,b,by rw [e]⟩
theorem Aun {α:Type}{us:List α}(h:us.length=3):∃ a b c,us=[a,b,c]:=by
 cases us with
 | nil=>cases h
 | cons a us=>obtain⟨b,c,e⟩:=len2 (Nat.succ.inj h);exact⟨a,b,c,by rw [e]⟩
theorem Avq {α:Type}{us:List α}(h:us.length=4):∃ a b c d,us=[a,b,c,d]:=by
 cases us with
 | nil=>cases h
 | cons a us=>obtain⟨b,c,d,e⟩:=Aun (Nat.succ.inj h);exact⟨a,b,c,d,by rw [e]⟩
noncomputable def Ajg:List D->Bool
 | []=>true
 | d :: r=>Yh d && Ajg r
noncomputable def Awx:D->Bool
 | .tup ds=>Ajg ds
 | d=>Yh d
noncomputable def Ao2:List D->Bool
 | []=>true
 | d :: r=>Awx d && Ao2 r
noncomputable def At6:D->R D
 | .lst ds=>if Ao2 ds=true then .ok (.lst ds) else .no
 | _=>.no
noncomputable def Atw (i:Nat) (m:EV):EV:=λ E=>match E[i]? with
 | some (.ow (.lst _))=>m (frz i E) >>= At6
 | _=>.no
section
variable {K:PySem.W.Frag}{H:Hp}{O:Addr->Prop}{a:Addr}{us:List V}
end
section
variable {X:Cx}{G:Fc}{e:Expr}{m:EV}
end
def Pin (i:Nat) (a:Addr) (σ:St):Prop:=σ[i]?=some (some (.ref a))
def orA (pr:Addr->Prop) (a:Addr):Addr->Prop:=λ b=>pr b\/b=a
noncomputable def Aws (i:Nat) (m:EV):EX:=λ E=>match E[i]? with
 | some (.ow (.dic c))=>m E >>= λ d=>.ok (.rt (.tup [d,.dic c]))
 | _=>.no
section
variable {X:Cx}{G:Fc}{i:Nat}{a:Addr}{st:Stmt}{rest:List Stmt}{m n:EX}{e:Expr}{me:EV}{pos:Pos}
end
section
variable {X:Cx}{G:Fc}{i:Nat}{a:Addr}{elt iter tg:Expr}{ifs:List Expr}{body:List Stmt}{scope:Scope}{pos:Pos}{ts:List Nat}{set:D->Ev->Option Ev}{mi:Ev->R (List D)}{mt:Ev->R Bool}{me:EV}{mb:EX}
end
open Classical in
noncomputable def offA (H:Hp) (a:Addr):Hp:=λ b=>if b=a then none else H b
theorem G7 {H:Hp}{a b:Addr}(h:b≠a):offA H a b=H b:=by unfold offA;rw [if_neg h]
theorem Uo {H:Hp}{a:Addr}:offA H a a=none:=by unfold offA;rw [if_pos rfl]
theorem Wa (H:Hp) (a:Addr):Same (offA H a) H:=λ b o h=>by
 by_cases e:b=a
 ·subst e;rw [Uo] at h;cases h
 ·rw [G7 e] at h;exact h
abbrev Kvs:=List (List Int × D)
noncomputable def spM (K:PySem.W.Frag) (n:Nat) (dn:List D->Kvs->R (D × Kvs)):Sp:=λ vs H Q _=>vs.length=n/\∃ (pr:Addr->Prop) (ds:List D) (us:List V) (a:Addr) (c:Kvs),vs=us++[.ref a]/\ds.length+1=n/\¬ pr a/\(∀ b,pr b->∃ o,H b=some o/\Kr o) ∧
 Rps K H (orA pr a) ds us/\Own K H (orA pr a) (.dic c) a/\Fin (dn ds c) (λ p=>∀ v H',Same (offA H a) H'->Rp K H' (orA pr a) p.1 v->Own K H' (orA pr a) (.dic p.2) a->Q v H') λ _=>False
structure CalM (P:Program) (w:World) (K:PySem.W.Frag) (mg:Str->Option Value) (base:Heap) (x:Str) (ps:List Str) (k:Nat) (dn:List D->Kvs->R (D × Kvs)):Prop where
 ex:∃ (f:Addr) (fd:FuncData),mg x=some (.ref f)/\PySem.W.keepIn K (.ref f)=true/\Binds K fd ps []/\FnOk P w K mg base CX0 k f fd ps (spM K ps.length dn)
section
variable {P:Program}{w:World}{K:PySem.W.Frag}{mg:Str->Option Value}{base:Heap}{x qual:Str}{st:Stmt}{f:Addr}{fd:FuncData}{N ps:List Str}{k i:Nat}{m:EX}
end
section
variable {X:Cx}{G:Fc}{e:Expr}{es:List Expr}{me:EV}{ma:Ev->R (List D)}{j:Nat}
theorem Rel.changed {K:PySem.W.Frag}{E:Ev}{σ:St}{H H':Hp}{a:Addr}{c c':Kvs}(r:Rel K G E σ H) (hj:E[j]?=some (.ow (.dic c))) (pn:Pin j a σ) (s:Same (offA H a) H') (ow:Own K H' (Ow G.pr E σ) (.dic c') a):Rel K G (E.set j (.ow (.dic c'))) σ H':=by
 obtain⟨a0,e1,e2,e3⟩:=r.ow j _ hj
 have ea:a0=a:=by unfold Pin at pn;rw [e1] at pn;cases pn;rfl
 subst ea
 have jl:j<E.length:=(List.getElem?_eq_some_iff.mp hj).1
 have osub:∀ b,Ow G.pr (E.set j (.ow (.dic c'))) σ b->Ow G.pr E σ b:=λ b h=>by
  rcases h with h|⟨i,d,h1,h2⟩
  ·exact .inl h
  ·rcases get_set h1 with ⟨rfl,_⟩|⟨_,h1⟩
   ·exact .inr ⟨i,_,hj,h2⟩
   ·exact .inr ⟨i,d,h1,h2⟩
 have mv:∀ b o,¬ Ow G.pr E σ b->H b=some o->H' b=some o/\¬ Ow G.pr (E.set j (.ow (.dic c'))) σ b:=λ b o nb h=>by
  have hne:b≠a0:=λ q=>by subst q;exact nb (.inr ⟨j,_,hj,e1⟩)
  exact⟨s _ _ (by rw [G7 hne];exact h),λ z=>nb (osub b z)⟩
 refine⟨by simp [r.len],λ i d h=>?_,λ i d h=>?_,λ i k d e b h1 h2 h3 h4=>?_,λ b o h=>?_,r.prt⟩
 ·rcases get_set h with ⟨_,z⟩|⟨_,h⟩
  ·cases z
  ·obtain⟨v,q1,q2⟩:=r.fz i d h
   exact⟨v,q1,q2.move mv⟩
 ·rcases get_set h with ⟨q,z⟩|⟨n1,h⟩
  ·cases z;subst q
   exact⟨a0,e1,ow.mono (Same.refl _) osub,e3⟩
  ·obtain⟨b,q1,q2,q3⟩:=r.ow i d h
   have hne:b≠a0:=λ q=>by subst q;exact n1 (r.ne i j d _ b h hj q1 e1)
   refine⟨b,q1,?_,q3⟩
   cases d with
   | lst ds=>obtain⟨vs,w1,w2⟩:=q2;exact⟨vs,s _ _ (by rw [G7 hne];exact w1),w2.move mv⟩
   | dic ds=>obtain⟨vs,w1,w2⟩:=q2;exact⟨vs,s _ _ (by rw [G7 hne];exact w1),w2.move mv⟩
   | _=>exact q2.elim
 ·have back:∀ {i:Nat} {d:D},(E.set j (.ow (.dic c')))[i]?=some (.ow d)->∃ d',E[i]?=some (.ow d'):=λ {i d} h=>by
   rcases get_set h with ⟨rfl,_⟩|⟨_,h⟩
   ·exact⟨_,hj⟩
   ·exact⟨_,h⟩
  obtain⟨d',w1⟩:=back h1
  obtain⟨e',w2⟩:=back h2
  exact r.ne i k d' e' b w1 w2 h3 h4
 ·have hne:b≠a0:=λ q=>by subst q;rw [e3] at h;cases h
  exact s _ _ (by rw [G7 hne];exact r.base _ _ h)
noncomputable def Azd (j n:Nat) (dn:List D->Kvs->R (D × Kvs)) (ma:Ev->R (List D)) (mo:EV) (ta tb:EX):EX:=λ E=>match E[j]? with
 | some (.ow (.dic c))=>ma E >>= λ ds=>if ds.length+1=n then dn ds c >>= λ p=>mo (E.set j (.ow (.dic p.2))) >>= λ y=>ofO (fNe p.1 y) >>= λ z=>match z with
  | .bl true=>ta (E.set j (.ow (.dic p.2)))
  | .bl false=>tb (E.set j (.ow (.dic p.2)))
  | _=>.no
  else .no
 | _=>.no
end
noncomputable def Awr (m:EV) (j:Nat):EX:=λ E=>match E[j]? with
 | some (.ow y)=>m E >>= λ d=>.ok (.rt (.tup [d,y]))
 | _=>.no
section
variable {X:Cx}{G:Fc}{st:Stmt}{rest:List Stmt}{m n:EX}{e:Expr}{me:EV}{pos tpos:Pos}
end
noncomputable def spT (K:PySem.W.Frag) (n:Nat) (den:List D->R D):Sp:=λ vs H Q _=>vs.length=n/\∃ (pr:Addr->Prop) (ds:List D),(∀ a,pr a->∃ o,H a=some o/\Kr o)/\Rps K H pr ds vs/\Fin (den ds) (λ d=>∀ t a v H' x y,d=.tup [x,y]->Same H H'->H a=none->H' t=some (.tup [v,.ref a])->Own K H' (orA pr a) y a->Q (.ref t) H') λ _=>False
structure CalT (P:Program) (w:World) (K:PySem.W.Frag) (mg:Str->Option Value) (base:Heap) (x:Str) (ps:List Str) (k:Nat) (dn:List D->R D):Prop where
 ex:∃ (f:Addr) (fd:FuncData),mg x=some (.ref f)/\PySem.W.keepIn K (.ref f)=true/\Binds K fd ps []/\FnOk P w K mg base CX0 k f fd ps (spT K ps.length dn)
section
variable {P:Program}{w:World}{K:PySem.W.Frag}{mg:Str->Option Value}{base:Heap}{x qual:Str}{st:Stmt}{f:Addr}{fd:FuncData}{N ps:List Str}{k:Nat}{m:EX}
end
section
variable {X:Cx}{G:Fc}{k j:Nat}{ps:List Str}{dn:List D->R D}{x:Str}{p pos:Pos}{e:Expr}{es:List Expr}{ma:Ev->R (List D)}
end
structure Loose (G:Fc) (E:Ev) (σ:St) (H H':Hp) (js:List Nat) (n:Nat) (as:List Addr):Prop where
 len:as.length=n
 nd:as.Nodup
 lst:∀ a∈as,∃ vs,H' a=some (.lst vs)/\vs.length<999000
 h0:∀ a∈as,G.h0 a=none
 out:∀ a∈as,H a=none\/∃ j∈js,∃ d,E[j]?=some (.ow d)/\σ[j]?=some (some (.ref a))
noncomputable def Ay3 (j:Nat) (m:Ev->R (List D)):Ev->R (List D):=λ E=>match E[j]? with
 | some (.ow (.lst ds))=>if ds.length<999000 then m E else .no
 | _=>.no
section
variable {X:Cx}{G:Fc}{e:Expr}{es:List Expr}{me:EV}{mo:Ev->R (List D)}{js:List Nat}{j:Nat}
end
end M
namespace M
open PySem PySem.W PySem.Spec PyProof.Rows L2 PySem.Calls
structure XCls (K:PySem.W.Frag) (C:Addr):Prop where
 ga:findIn K (.ref C) "__getattribute__"=some (some (.builtin "BaseException.__getattribute__"))
 gn:findIn K (.ref C) "__getattr__"=some none
 cl:findIn K (.ref C) "__class__"=some (some (.builtin "object.__class__"))
 be:mroIn K C (.type "BaseException")=some true
 ob:mroIn K C (.type "object")=some true
section
variable {prog:Program}{w:World}{A:Around}{E:Value->Shared->Prop}{h:Heap}{g:Array GenState}{d:Drawn}{t:Nat}{os:OsState}{a C:Addr}{o:Obj}{vs:Array Value}{K:PySem.W.Frag}
theorem Aow {R:Result->Shared->Prop}(X:K.In h) (XC:XCls K C) (hx:h.get? a=some o) (hc:o.cls=.ref C) (hq:R (.ok (.ret (.ref C))) ⟨h,g,d,t,os⟩) :
  codeAny (model prog w) A (.call (.builtin "getset_descriptor.__get__") ⟨[.builtin "object.__class__",.ref a,.ref C],[]⟩) R ⟨h,g,d,t,os⟩:=by
 have hT5:(⟨h,g,d,t,os⟩:Shared).TypeIs (.builtin "object.__class__") "getset_descriptor":=F.typeOf_object_class
 have L1:Looks (model prog w) h (isSubtype (.ref C) (.type (".".intercalate ("object.__class__".cutAt '.').dropLast))) true:=by rw [F.owner_object_class];exact looks_mroIn X XC.ob
 refine codeAny_call_builtin F.slot_gs_get.plain F.entry_gs_get (F.slot_gs_get.check _ _ _ _ _ _ _ _ hT5 (F.args_gs_get _ _ _) ?_)
 repeat (any_goals (first|assumption|(with_reducible refine wpAny_loadPart_at hx ?_;rw [hc])|with_reducible refine L1.at ?_|wp_step))
 refine⟨Code.quiet_builtin _ (by decide +kernel),codeAny_builtin F.entry_object_class ?_⟩
 repeat (any_goals (first|assumption|(with_reducible refine wpAny_loadPart_at hx ?_;rw [hc])|wp_step))
theorem Ahi {tk:Tok}{Q:PySem.Fin->Shared->Prop}(X:K.In h) (XC:XCls K C) (hx:h.get? a=some o) (hc:o.cls=.ref C) (hd:o.data=.fields vs) (hq:Q (.done (.ret (.ref C))) ⟨h,g,d,t,os⟩) :
  wpAny (model prog w) A (Builtin.«object.__getattribute__» ⟨[.ref a,.str "__class__" tk],[]⟩) Q E ⟨h,g,d,t,os⟩:=by
 have hT5:(⟨h,g,d,t,os⟩:Shared).TypeIs (.builtin "object.__class__") "getset_descriptor":=F.typeOf_object_class
 have f5:=F.typeOf_object_class
 have f6:=F.slot_gs_get.lookup
 have f7:=F.slot_gs_set.lookup
 have L1:=looks_findIn (M:=model prog w) X XC.cl
 repeat (any_goals (first|assumption|(with_reducible refine wpAny_loadPart_at hx ?_;rw [hc])|with_reducible refine L1.at ?_|wp_step))
 refine Aow X XC hx hc ?_
 repeat (any_goals (first|assumption|wp_step))
theorem Agu {M:Model}{nameV:Value}{Q:Unit->Shared->Prop}(X:K.In h) (XC:XCls K C) (hx:h.get? a=some o) (hc:o.cls=.ref C) (hq:Q () ⟨h,g,d,t,os⟩):wpAny M A (checkBuiltinCall "BaseException.__getattribute__" ⟨[.ref a,nameV],[]⟩) Q E ⟨h,g,d,t,os⟩:=by
 have hk:builtinKind "BaseException.__getattribute__"=some .slot:=by decide +kernel
 have hsplit:splitId "BaseException.__getattribute__"=some ("BaseException","__getattribute__"):=by decide +kernel
 have L1:=looks_mroIn (M:=M) X XC.be
 have ha:=F.args_bexc_ga (.ref a) nameV
 simp only [checkBuiltinCall,hk,hsplit]
 refine wpAny_bind ?_
 ·unfold isInstance
  repeat (first|(with_reducible refine wpAny_loadPart_at hx ?_;rw [hc])|with_reducible refine L1.at ?_|wp_step)
  exact hq
theorem Akb {tk:Tok}{R:Result->Shared->Prop}(X:K.In h) (XC:XCls K C) (hx:h.get? a=some o) (hc:o.cls=.ref C) (hd:o.data=.fields vs) (hq:R (.ok (.ret (.ref C))) ⟨h,g,d,t,os⟩) :
  codeAny (model prog w) A (.call (.builtin "BaseException.__getattribute__") ⟨[.ref a,.str "__class__" tk],[]⟩) R ⟨h,g,d,t,os⟩ :=
 codeAny_call_builtin F.attr_ValueError.ga.plain F.entry_bexc_ga (Agu X XC hx hc (Ahi X XC hx hc hd hq))
theorem Asx {tk:Tok}{fill expr:Bool}{Q:Value->Shared->Prop}(X:K.In h) (XC:XCls K C) (hx:h.get? a=some o) (hc:o.cls=.ref C) (hd:o.data=.fields vs) (hq:Q (.ref C) ⟨h,g,d,t,os⟩) :
  wpAny (model prog w) A (getAttrBy (.ref a) (.str "__class__" tk) fill expr) Q E ⟨h,g,d,t,os⟩:=by
 have f3:=F.attr_ValueError.ga.bind (.ref a)
 have hx0:(expr && onTheHeap (Value.builtin "BaseException.__getattribute__"))=false:=by cases expr<;>rfl
 have hx2:(Value.builtin "BaseException.__getattribute__" == Value.builtin "object.__getattribute__")=false:=by decide +kernel
 have hx1:(onTheHeap (Value.ref C) && Value.builtin "BaseException.__getattribute__" == Value.builtin "object.__getattribute__")=false:=by rw [hx2];rfl
 have L1:=looks_findIn (M:=model prog w) X XC.ga
 have L2:=looks_findIn (M:=model prog w) X XC.gn
 repeat (any_goals (first|assumption|(with_reducible refine wpAny_loadPart_at hx ?_;rw [hc])|with_reducible refine L1.at ?_|with_reducible refine L2.at ?_|wp_step))
 refine Akb X XC hx hc hd ?_
 repeat (any_goals (first|assumption|wp_step))
theorem Aj5 {Q:Option Value->Shared->Prop}(X:K.In h) (XC:XCls K C) (hx:h.get? a=some o) (hc:o.cls=.ref C) (hd:o.data=.fields vs) (hq:Q (some (.ref C)) ⟨h,g,d,t+1,os⟩) :
  wpAny (model prog w) A (getAttr? (.ref a) "__class__") Q E ⟨h,g,d,t,os⟩:=by
 unfold getAttr? getAttrBy?
 repeat (any_goals (first|assumption|with_reducible apply Asx X XC hx hc hd|wp_step))
end
def XAt (a C:Addr) (h:Heap):Prop:=∃ o vs,h.get? a=some o/\o.cls=.ref C/\o.data=.fields vs
theorem XCls.obj {K:PySem.W.Frag}{C:Addr}(XC:XCls K C):∃ c d cd sl,K.lookup C=some ⟨c,d,.cls cd,sl⟩:=by
 have e:=XC.cl
 unfold findIn at e
 dsimp only at e
 split at e
 ·rename_i c d cd sl ho;exact⟨c,d,cd,sl,ho⟩
 ·cases e
theorem Ahw {K:PySem.W.Frag}{a C:Addr}(XC:XCls K C):KitX K (.ref a) (.ref C) (XAt a C) where
 ty:=λ M h _ ⟨o,vs,h1,h2,_⟩=>by
  intro A Q E s k q
  have:=k _ _ h1
  unfold typeOf
  dsimp only
  refine wpAny_bind (wpAny_loadPart this (wpAny_pure ?_))
  rw [h2];exact q
 it:=λ M h X _=>by
  obtain⟨c,d,cd,sl,ho⟩:=XC.obj
  intro A Q E s k q
  unfold isType loadHead
  exact wpAny_bind (wpAny_loadPart (k _ _ (X _ _ ho)) (wpAny_pure q))
 ne:=λ h tp dd its n sl X htp=>by
  obtain⟨c,d,cd,sl',ho⟩:=XC.obj
  refine Bool.eq_false_iff.mpr λ q=>?_
  have e:C=tp:=Value.ref.inj (beq_iff_eq.mp q)
  subst e
  have z:=(X _ _ ho).symm.trans htp
  cases z
 ca:=λ {_ _ _ _ _ s} X p k=>by
  obtain⟨o,vs,h1,h2,h3⟩:=p
  obtain⟨h,g,d,t,os⟩:=s
  exact Aj5 X XC h1 h2 h3 k
theorem Abx {X:Cx}{pins:List (Addr × Obj)}{σ:L2.St}{H:Hp}{s:Shared}{A:Around}{E:Value->Shared->Prop}{Q:Value->Shared->Prop}{a C:Addr}{c:Value}{b:Bool}(I:Inv X pins σ H s) (XC:XCls X.K C) (x:XAt a C s.heap) (e:kitOne X.K (.ref C) c=some b)
  (h:∀ tk,Q (.bool b) { s with toks:=tk }):wpAny (model X.prog X.w) A (call (.builtin "isinstance") [.ref a,c]) Q E s :=
 kia_one (Ahw XC) I.kIn x e (λ z=>nomatch z) h
theorem Aaf {P:Program}{w:World}{H:Hp}{h:Heap}{a:Addr}{o:HO}(x:Ea P w H h a o):∃ ob,h.get? a=some ob:=by
 cases o with
 | lst xs=>obtain⟨_,_,_,_,e⟩:=x;exact⟨_,e⟩
 | tup xs=>obtain⟨_,_,_,_,e,_⟩:=x;exact⟨_,e⟩
 | dK kvs=>obtain⟨_,_,_,_,_,_,_,e,_⟩:=x;exact⟨_,e⟩
 | dT kvs=>obtain⟨_,_,_,_,_,_,_,e,_⟩:=x;exact⟨_,e⟩
 | set S n=>obtain⟨_,_,_,_,e,_⟩:=x;exact⟨_,e⟩
 | ins C dx fs=>obtain⟨_,_,_,e,_⟩:=x;exact⟨_,e⟩
 | own y=>exact x
 | xd fs=>obtain⟨_,⟨_,_,_,e,_⟩,_⟩:=x;exact⟨_,e⟩
 | rng lo hi=>obtain⟨_,_,_,e⟩:=x;exact⟨_,e⟩
 | frz ob u=>exact⟨_,x.1⟩
 | tbl ps=>exact⟨_,x⟩
 | met f y=>exact⟨_,x⟩
 | ext φ=>exact x.2.1
structure Fly (P:Program) (w:World) (l:List Env) (H:Hp) (s:Shared) (C e:Addr) (H':Hp) (s':Shared):Prop where
 os:s'.os=s.os
 bare:AllBare s'.gens
 un:Un (frs l) [] H H' s.heap s'.heap
 hok:HOk P w H' s'.heap
 same:Same H H'
 fr:H' e=none
 fl:∃ B t,Heap.FlyingW B l e (.ref C) (.ref t) s'.heap/\(∀ b o,s.heap.get? b=some o->H b=none->b∉frs l->B.get? b=some o)/\∀ b u o,H' b=some u->s'.heap.get? b=some o->B.get? b=some o
theorem S8 {P:Program}{w:World}{H:Hp}{h h' B:Heap}(x:HOk P w H h) (c:∀ b u o,H b=some u->h.get? b=some o->B.get? b=some o) (k:B.StaysIn h'):HOk P w H h':=λ b u e =>
 (x b u e).stay (λ c' v hc q=>k _ _ (by
  rcases hc with rfl|hc
  ·exact c _ _ _ e q
  ·exact c _ _ _ hc q)) (λ _ q=>q) λ _ _ q=>q
section
variable {X:Cx}{pins:List (Addr × Obj)}{σ:L2.St}{H H':Hp}{s s':Shared}{B h':Heap}{C e:Addr}
theorem Zx (J:Inv X pins σ H s) (hx:X.ex=[]) (c2:∀ b o,X.s₀.heap.get? b=some o->X.H₀ b=none->b∉X.fs->B.get? b=some o) (c3:∀ b u o,H b=some u->s.heap.get? b=some o->B.get? b=some o)
  (sm:Same X.H₀ H) (k:B.StaysIn h') (up:s.heap.UpToSlots h'):Un X.fs [] X.H₀ H X.s₀.heap h':=by
 have no:∀ b:Addr,b∉X.ex:=λ b=>by rw [hx];simp
 have sl:∀ b o,X.s₀.heap.get? b=some o->X.H₀ b=none->b∈X.fs->∃ sl,h'.get? b=some { o with slots:=sl }:=λ b o q n hb=>by
  obtain⟨sl,e⟩:=J.base.slot b o q n hb (no b)
  obtain⟨_,o',ho',hd⟩:=J.ok.funs.mem hb
  rw [q] at ho';cases ho'
  obtain⟨sl',e'⟩:=up b { o with slots:=sl } e hd
  exact⟨sl',e'⟩
 refine⟨λ b o q n hb _=>k b o (c2 b o q n hb),λ b o q n hb _=>sl b o q n hb,λ b o q n _=>J.base.free b o q n (no b),λ b o q _=>?_,J.base.tups,J.base.frzs,J.base.tbls⟩
 cases n:X.H₀ b with
 | none =>
  by_cases hb:b∈X.fs
  ·obtain⟨_,e⟩:=sl b o q n hb;exact⟨_,e⟩
  ·exact⟨o,k b o (c2 b o q n hb)⟩
 | some u =>
  obtain⟨ob,e⟩:=Aaf (J.hok b u (sm b u n))
  exact⟨ob,k _ _ (c3 b u ob (sm b u n) e)⟩
theorem Afo (J:HOk X.prog X.w H s.heap) (c3:∀ b u o,H b=some u->s.heap.get? b=some o->B.get? b=some o) (k:B.StaysIn h'):∀ b u o,H b=some u->h'.get? b=some o->B.get? b=some o:=λ b u o hu ho=>by
 obtain⟨ob,e⟩:=Aaf (J b u hu)
 have z:=c3 b u ob hu e
 have y:=k _ _ z
 rw [ho] at y;cases y
 exact z
theorem Aph (I:Inv X pins σ H s) (hx:X.ex=[]) (c2:∀ b o,s.heap.get? b=some o->H b=none->b∉frs X.stack->B.get? b=some o):∀ b o,X.s₀.heap.get? b=some o->X.H₀ b=none->b∉X.fs->B.get? b=some o:=λ b o q n hb=>by
 have no:b∉X.ex:=by rw [hx];simp
 refine c2 b o (I.base.keep b o q n hb no) (I.base.free b o q n no) λ z=>?_
 rcases List.mem_cons.mp (I.stkSub b z) with z|z
 ·exact absurd (Nat.lt_of_lt_of_le (Heap.lt_size q) I.ok.above) (by rw [z];exact Nat.lt_irrefl _)
 ·exact hb z
theorem Fly.inv (I:Inv X pins σ H s) (F:Fly X.prog X.w X.stack H s C e H' s'):Inv X pins σ H' s':=by
 obtain⟨hh,g,d,tk,os'⟩:=s'
 obtain rfl:os'=s.os:=F.os
 exact I.call (h':=hh) (g':=g) (d':=d) (t':=tk) (ch:=[]) F.un F.hok F.bare (λ b z=>absurd z (by simp))
theorem Fly.leave {Q:Unit->Shared->Prop}{E:Value->Shared->Prop}(I:Inv X pins σ H s) (hx:X.ex=[]) (hs:X.stack=X.env :: X.outer) (hf:X.env.frame=some X.env.locals) (F:Fly X.prog X.w X.stack H s C e H' s') (sm:Same X.H₀ H)
  (q:∀ s'',Fly X.prog X.w X.outer X.H₀ X.s₀ C e H' s''->Q () s''):wpAny (model X.prog X.w) X.A (leaving X.env (.ref e)) Q E s':=by
 have J:=F.inv I
 obtain⟨B,t,fl,c2,c3⟩:=F.fl
 have cc:=Aph I hx c2
 rw [hs] at fl
 refine wpAny_leaves_onW (I.ok.frames.trans (by rw [hs])) hf fl λ h' x1 x2=>q _ ⟨J.os,J.bare,Zx J hx cc c3 (sm.trans F.same) x1.1 x2,S8 J.hok c3 x1.1,sm.trans F.same,F.fr,B,t,x1,cc,Afo J.hok c3 x1.1⟩
theorem Acb {Q:Unit->Shared->Prop}{E:Value->Shared->Prop}{h₁:Heap}{args:List Value}(I:Inv X pins σ H s) (hx:X.ex=[]) (hs:X.stack=X.env :: X.outer) (hf:X.env.frame=some X.env.locals) (hm:Heap.MadeExcOf s.heap h₁ e (.ref C) args) (sm:Same X.H₀ H)
  (q:∀ s'',Fly X.prog X.w X.outer X.H₀ X.s₀ C e H s''->Q () s''):wpAny (model X.prog X.w) X.A (leaving X.env (.ref e)) Q E { s with heap:=h₁ }:=by
 have hin:∀ env∈X.stack,∀ a,env.frame=some a->a∈frs X.stack:=λ env he a ha=>List.mem_filterMap.mpr ⟨env,he,ha⟩
 have st:(hideAll s.heap (frs X.stack)).StaysIn s.heap:=λ b o z=>of_hideAll _ z
 have c2:∀ b o,s.heap.get? b=some o->H b=none->b∉frs X.stack->(hideAll s.heap (frs X.stack)).get? b=some o:=λ b o z _ hb=>hideAll_get _ z hb
 have c3:∀ b u o,H b=some u->s.heap.get? b=some o->(hideAll s.heap (frs X.stack)).get? b=some o:=λ b u o hu z=>hideAll_get _ z λ hb=>by rw [I.stkFree b hb] at hu;cases hu
 have ff0:=funFrames_hide I.stack hin
 have ff:s.heap.FunFrames (hideAll s.heap (frs X.stack)) (X.env :: X.outer):=by rw [hs] at ff0;rw [hs];exact ff0
 have cc:=Aph I hx c2
 have fe:H e=none:=by
  cases z:H e with
  | none=>rfl
  | some u =>
   obtain⟨ob,y⟩:=Aaf (I.hok e u z)
   rw [hm.new] at y;cases y
 have up0:s.heap.UpToSlots h₁:=Heap.UpToSlots.of_keeps hm.keeps
 refine wpAny_leaves_madeW (s:={ s with heap:=h₁ }) (I.ok.frames.trans (by rw [hs])) hf st ff hm λ h' t x1 _ _ x4=>q _ ?_
 exact⟨I.os,I.bare,Zx I hx cc c3 sm x1.1 (up0.trans x4),S8 I.hok c3 x1.1,sm,fe,_,t,x1,cc,Afo I.hok c3 x1.1⟩
end
noncomputable def cname:Nat->Str
 | 0=>"NoFloor"
 | 1=>"NoLaying"
 | 2=>"NotPlain"
 | 3=>"NoTurn"
 | 4=>"NoNumber"
 | _=>"NoNote"
structure Link (X:Cx) (G:Fc):Prop where
 made:∀ {pins:List (Addr × Obj)} {σ:L2.St} {H:Hp} {s:Shared} {h':Heap} {e C:Addr} {c:Nat} {args:List Value},Inv X pins σ H s->Same G.h0 H->X.mg (cname c)=some (.ref C)->G.xc c->Heap.MadeExcOf s.heap h' e (.ref C) args->X.xe (.ref e) { s with heap:=h' }
 flew:∀ {pins:List (Addr × Obj)} {σ:L2.St} {H:Hp} {s:Shared} {H':Hp} {s':Shared} {e C:Addr} {c:Nat},Inv X pins σ H s->Same G.h0 H->X.mg (cname c)=some (.ref C)->G.xc c->Fly X.prog X.w X.stack H s C e H' s'->X.xe (.ref e) s'
noncomputable def CXE (P:Program) (w:World):CXT:=λ outer H s E e s'=>∃ a C H',e=.ref a/\Fly P w outer H s C a H' s'/\E e (some C) H'
abbrev bxE (P:Program) (w:World) (K:PySem.W.Frag) (mg:Str->Option Value) (base:Heap) (N:List Str) (qual:Str) (sc:Scope) (f:Addr) (cdv:Value) (A:Around) (outer:List Env) (s:Shared) (H:Hp) (E:XK):Cx:=Ajo (CXE P w) P w K mg base N qual sc f cdv A outer s H E
noncomputable def spE (K:PySem.W.Frag) (mg:Str->Option Value) (n:Nat) (den:List D->R D):Sp:=λ vs H Q E=>vs.length=n/\∃ (pr:Addr->Prop) (ds:List D),(∀ a,pr a->∃ o,H a=some o/\Kr o)/\Rps K H pr ds vs/\Fin (den ds) (λ d=>∀ v H',Same H H'->Rp K H' pr d v->Q v H') λ c=>∀ e C H',mg (cname c)=some (.ref C)->Same H H'->E e (some C) H'
structure CalE (P:Program) (w:World) (K:PySem.W.Frag) (mg:Str->Option Value) (base:Heap) (x:Str) (ps:List Str) (k:Nat) (dn:List D->R D):Prop where
 ex:∃ (f:Addr) (fd:FuncData),mg x=some (.ref f)/\PySem.W.keepIn K (.ref f)=true/\Binds K fd ps []/\FnOk P w K mg base (CXE P w) k f fd ps (spE K mg ps.length dn)
section
variable {P:Program}{w:World}{K:PySem.W.Frag}{mg:Str->Option Value}{base:Heap}{x qual:Str}{st:Stmt}{f:Addr}{fd:FuncData}{N ps:List Str}{k:Nat}{m:EX}
theorem Aaj {sc:Scope}{cdv:Value}{A:Around}{outer:List Env}{s:Shared}{H:Hp}{E:XK}{pr:Addr->Prop}:Link (bxE P w K mg base N qual sc f cdv A outer s H E) ⟨H,pr,λ c=>∀ e C H',mg (cname c)=some (.ref C)->Same H H'->E e (some C) H'⟩ where
 made:=λ I sm hm hc h=>Acb I rfl rfl rfl h sm λ s'' F=>⟨_,_,_,rfl,F,hc _ _ _ hm sm⟩
 flew:=λ I sm hm hc F=>F.leave I rfl rfl rfl sm λ s'' F'=>⟨_,_,_,rfl,F',hc _ _ _ hm F'.same⟩
theorem Dl (F:Fun K x qual st f fd) (S:FnScope N ps (Ah st))
  (hb:∀ (cdv:Value) (A:Around) (outer:List Env) (s:Shared) (H:Hp) (E:XK),Room k (bxE P w K mg base N qual (Ah st) f cdv A outer s H E).A->Gd (bxE P w K mg base N qual (Ah st) f cdv A outer s H E).nox->∀ G:Fc,Link (bxE P w K mg base N qual (Ah st) f cdv A outer s H E) G->SB (bxE P w K mg base N qual (Ah st) f cdv A outer s H E) G (Gb st) m) :
  FnOk P w K mg base (CXE P w) (k+1) f fd ps (spE K mg ps.length (den N.length m)):=by
 obtain⟨oc,od,kV,doc,pm,an,cdv,ct,osl,rfl,lk,hcd⟩:=F.ex
 refine Ako lk hcd S (λ vs H Q E h=>h.1) λ A outer s H vs Q E hr ⟨hl,pr,ds,hp,rs,f⟩=>?_
 refine⟨_,hb cdv A outer s H E hr ⟨rfl,PassesOwn.never,S.nd,by have:=hr.units;exact Nat.lt_of_le_of_lt (Nat.add_le_add_left (by decide) _) this⟩ _ (Aaj (pr:=pr)),Ft N.length ds,W8 hp rs,?_⟩
 refine (Fin.bind f).mono λ o p=>?_
 cases o with
 | rt d=>exact λ v H' s z=>p v H' s z
 | nx E'=>exact λ σ' H' r'=>p .non H' r'.base (by unfold Rp;rfl)
 | bk E'=>exact p.elim
 | ct E'=>exact p.elim
end
noncomputable def calm {α:Type}(m:Ev->R α):Ev->R α:=λ E=>match m E with
 | .ok a=>.ok a
 | _=>.no
@[simp] theorem Ate {α:Type}{m:Ev->R α}{E:Ev}{a:α}(h:m E=.ok a):calm m E=.ok a:=by unfold calm;rw [h]
noncomputable def Fc.calm (G:Fc):Fc:={ G with xc:=λ _=>False }
theorem Rel.calm {K:PySem.W.Frag}{G:Fc}{E:Ev}{σ:St}{H:Hp}(r:Rel K G E σ H):Rel K G.calm E σ H:=⟨r.len,r.fz,r.ow,r.ne,r.base,r.prt⟩
theorem Rel.uncalm {K:PySem.W.Frag}{G:Fc}{E:Ev}{σ:St}{H:Hp}(r:Rel K G.calm E σ H):Rel K G E σ H:=⟨r.len,r.fz,r.ow,r.ne,r.base,r.prt⟩
theorem S7 {α:Type}{m:Ev->R α}{E:Ev}{p:α->Prop}{x:Nat->Prop}(h:Fin (M.calm m E) p x):Fin (m E) p λ _=>False:=by
 unfold M.calm at h
 cases e:m E with
 | ok a=>rw [e] at h;exact h
 | er c=>rw [e] at h;exact h
 | no=>rw [e] at h;exact h
section
variable {X:Cx}{G:Fc}
theorem Cj {st:Stmt}{m:EX}(h:∀ G:Fc,(∀ c,¬ G.xc c)->SS X.nox G st m):SS X G st (M.calm m):=λ pins s σ H D I ⟨E,hr,f⟩ =>
 wpAny_mono (h G.calm (λ _ z=>z) pins s σ H D (I.wish _) ⟨E,hr.calm,(S7 f).mono λ o p=>by
  cases o with
  | nx E'=>exact λ σ' H' r'=>p σ' H' r'.uncalm
  | bk E'=>exact λ σ' H' r'=>p σ' H' r'.uncalm
  | ct E'=>exact λ σ' H' r'=>p σ' H' r'.uncalm
  | rt d=>exact p⟩) (λ _ _ q=>q.unwish) λ _ _ z=>False.elim z
theorem Cv {e:Expr}{m:Ev->R Bool}(h:∀ G:Fc,(∀ c,¬ G.xc c)->ST X.nox G e m):ST X G e (M.calm m) :=
 PT.nox (PT.imp (h G.calm λ _ z=>z) λ σ H Q ⟨E,hr,f⟩=>⟨E,hr.calm,S7 f⟩)
theorem Ans {es:List Expr}{t:TA}(h:PA X.nox es t):PA X es t:=λ pos pins s σ H Q I hw =>
 wpAny_mono (h pos pins s σ H Q (I.wish _) hw) (λ _ _ ⟨vs,H',I',r,q⟩=>⟨vs,H',I'.unwish,r,q⟩) λ _ _ z=>False.elim z
theorem Aku {es:List Expr}{m:Ev->R (List D)}(h:∀ G:Fc,(∀ c,¬ G.xc c)->SA X.nox G es m):SA X G es (M.calm m) :=
 Ans (PA.imp (h G.calm λ _ z=>z) λ σ H Q ⟨E,hr,f⟩=>⟨E,hr.calm,S7 f⟩)
end
section
variable {X:Cx}{G:Fc}{k:Nat}{f:Addr}{fd:FuncData}{ps:List Str}{dn:List D->R D}{x:Str}{p pos:Pos}{e:Expr}{es:List Expr}{ma:Ev->R (List D)}{sp:Sp}{CX:CXT}
theorem Aq8 {pins:List (Addr × Obj)}{σ:L2.St}{H:Hp}{s:Shared}{Q:VK}{E:XK}{us:List Value}{vs:List V}(F:FnOk X.prog X.w X.K X.mg X.base CX k f fd ps sp) (hr:Room k X.A) (hb:Binds X.K fd ps [])
  (hx:∀ e s',CX X.stack H s E e s'->X.xe e s') (I:Inv X pins σ H s) (r:Vals vs us) (h:sp vs H Q E):wpAny (model X.prog X.w) X.A (call (.ref f) us) (EP X pins σ Q) X.xe s:=by
 have hl:us.length=ps.length:=by rw [<-r.length];exact F.len _ _ _ _ h
 have hb':=hb s us I.kIn (by rw [List.append_nil];exact hl)
 rw [List.append_nil] at hb'
 refine wpAny_call (codeAny_mono (F.run X.A X.stack s H ⟨us,[]⟩ us vs Q E hr I.env0 hb' r h) λ r s' hq=>?_)
 rcases r with e|fl
 ·exact hx e s' hq
 ·rcases fl with _|_|_|u
  all_goals first|exact I.after hq|exact False.elim hq
theorem Vl {n:Nat}{pins:List (Addr × Obj)}{σ:L2.St}{H:Hp}{s:Shared}{Q:VK}{Ev:Ev}{xc:Nat->Prop}(F:FnOk X.prog X.w X.K X.mg X.base (CXE X.prog X.w) k f fd ps (spE X.K X.mg n dn)) (hr:Room k X.A) (hg:Gl X x) (hm:X.mg x=some (.ref f)) (hk:PySem.W.keepIn X.K (.ref f)=true) (hb:Binds X.K fd ps [])
  (ha:∀ G:Fc,(∀ c,¬ G.xc c)->SA X.nox G (e :: es) ma) (I:Inv X pins σ H s) (hrl:Rel X.K G Ev σ H) (fn:Fin (Am n dn (M.calm ma) Ev) (λ d=>∀ v H',Same H H'->Rp X.K H' (Ow G.pr Ev σ) d v->Q v H') xc)
  (hx:∀ c H1 s1 H' s' e C,xc c->Inv X pins σ H1 s1->Same H H1->Fly X.prog X.w X.stack H1 s1 C e H' s'->X.mg (cname c)=some (.ref C)->X.xe (.ref e) s')
  (hdb:(x == ("__debug__":Str))=false:=by decide) (he:starEach (e :: es) X.env=(false,eval e X.env) :: starEach es X.env:=by rfl) (hpl:(backTo pos (starEach es X.env)).any (·.1)=false:=by rfl) :
  wpAny (model X.prog X.w) X.A (eval (.Call (.Name x p) (e :: es) [] pos) X.env) (EP X pins σ Q) X.xe s:=by
 refine wpAny_Call_Name_kw (Mf I hg hm ?_ hdb)
 refine PySem.W.callWith_K (h₀:=X.base) I.ok.mod.kin hk (thn ((Aku (G:=⟨G.h0,G.pr,xc⟩) ha) pos pins s σ H (λ vs H1=>Same H H1/\spE X.K X.mg n dn vs H1 Q λ e oc H'=>∃ c C,oc=some C/\X.mg (cname c)=some (.ref C)/\xc c) I
  ⟨Ev,⟨hrl.len,hrl.fz,hrl.ow,hrl.ne,hrl.base,hrl.prt⟩,(Fin.bind fn).mono λ ds p vs H1 s1 rs=>⟨s1,?_⟩⟩) λ us s1 ⟨vs,H1,I1,r,sm,q⟩=>⟨I1.kIn,?_⟩) he hpl
 ·split at p
  ·rename_i hl
   refine⟨by rw [rs.length];exact hl,Ow G.pr Ev σ,ds,λ a z=>(hrl.same s1).owned z,rs,?_⟩
   revert p
   cases dn ds with
   | ok d=>exact λ p v H' s z=>p v H' (s1.trans s) z
   | er c=>exact λ p e C H' hm _=>⟨c,C,rfl,hm,p⟩
   | no=>exact λ p=>p
  ·exact p.elim
 ·refine Aq8 F hr hb ?_ I1 r q
  rintro e' s' ⟨a,C,H',rfl,F',c,C',e1,hm',xc'⟩
  cases e1
  exact hx c H1 s1 H' s' a C xc' I1 sm F' hm'
theorem Ay {j:Nat}(C:CalE X.prog X.w X.K X.mg X.base x ps k dn) (lk:Link X G) (hr:Room j X.A) (hk:k<=j) (hg:Gl X x) (ha:∀ G:Fc,(∀ c,¬ G.xc c)->SA X.nox G (e :: es) ma) (hdb:(x == ("__debug__":Str))=false:=by decide) (he:starEach (e :: es) X.env=(false,eval e X.env) :: starEach es X.env:=by rfl) (hpl:(backTo pos (starEach es X.env)).any (·.1)=false:=by rfl) :
  SF X G (.Call (.Name x p) (e :: es) [] pos) (Am ps.length dn (M.calm ma)):=by
 obtain⟨f,fd,hm,hk',hb,F⟩:=C.ex
 rintro pins s σ H Q I ⟨Ev,hrl,fn⟩
 exact Vl F (hr.mono hk) hg hm hk' hb ha I hrl fn (λ c H1 s1 H' s' e C xc I1 sm F' hm'=>lk.flew I1 (hrl.base.trans sm) hm' xc F') hdb he hpl
end
theorem Afw {K:PySem.W.Frag}{h:Heap}{C:Addr}{bmB:List Value}{newId:String}(X:K.In h) (q:excIn K C bmB newId=true):∃ bm N nm qn bs hdct sn sub ab col dd k0 k1 k2 k3 k5 mN,
  h.get? C=some (excClassObj nm qn C N bs bm hdct sn sub ab col dd k0 k1 k2 k3 k5 newId)/\h.Ns N mN/\mN "__init__"=none/\OwnTail h bmB bm:=by
 unfold excIn at q
 split at q
 next dd cd sl ho =>
  split at q
  next C' bm k0 k1 k2 k3 n k5 hm hs =>
   have q1:=Bool.and_eq_true_iff.mp q
   have q2:=Bool.and_eq_true_iff.mp q1.1
   have q3:=Bool.and_eq_true_iff.mp q2.1
   have q4:=Bool.and_eq_true_iff.mp q3.1
   have q5:=Bool.and_eq_true_iff.mp q4.1
   obtain rfl:=beq_iff_eq.mp q5.1
   obtain rfl:=beq_iff_eq.mp q5.2
   have hdel:=q4.2
   cases cd with
   | mk nm bs mro ns qn hd sn sub ab col del =>
   cases sl
   simp only at hm hs hdel
   subst hm hs
   cases del with
   | true=>cases hdel
   | false=>exact⟨bm,ns,nm,qn,bs,hd,sn,sub,ab,col,dd,k0,k1,k2,k3,k5,_,X _ _ ho,.of_isNs (isNs_of_in X q2.2),nsMap_none_of_in X q2.2 (beq_iff_eq.mp q1.2),tail_of_in X q3.2⟩
  next=>cases q
 next=>cases q
section
variable {X:Cx}{G:Fc}
noncomputable def Jh (c:Nat):EX:=λ _=>.er c
theorem Li (c:Nat) {x:Str}{msg:Str}{C:Addr}{newId initId B:String}{bmB:List Value}{np kp cpos pos:Pos}{j:Nat}(FB:ExcBaseFacts B newId initId bmB) (lk:Link X G) (hc:X.calm=true) (hx:cname c=x) (hg:Gl X x) (hm:X.mg x=some (.ref C)) (q:excIn X.K C bmB newId=true)
  (hdb:(x == ("__debug__":Str))=false:=by decide):SS X G (.Raise (some (.Call (.Name x np) [.Constant (.str msg) j kp] [] cpos)) none pos) (Jh c):=by
 rintro pins s σ H D I ⟨E,hr,f⟩
 obtain⟨bm,N,nm,qn,bs,hdct,sn,sub,ab,col,dd,k0,k1,k2,k3,k5,mN,hC,hN,hni,T⟩:=Afw I.ok.mod.kin q
 refine wpAny_Raise_call_subT (nm:=nm) (q:=qn) (C:=C) (N:=N) (bs:=bs) (bm:=bm) (hdct:=hdct) (sn:=sn) (sub:=sub) (ab:=ab) (col:=col) (dd:=dd) (k0:=k0) (k1:=k1) (k2:=k2) (k3:=k3) (k5:=k5) FB (mN:=mN) (T.hasType FB.hasBase) (I.ok.hd hc) rfl hni (Mf I hg hm ⟨rfl,?_⟩ hdb)
 refine Calls.evalArgs_plain (wpAny_mono ((Ak Zr Bl) cpos pins s σ H (λ vs H'=>H'=H/\vs.length=1) I ⟨rfl,rfl⟩) ?_ λ _ _ z=>z)
 rintro us s2 ⟨vs,H1,I1,r,rfl,hl⟩
 refine⟨rfl,by show us.length<=sizeLine;rw [<-r.length,hl];decide,I1.bk _ _ hC,hN.keeps I1.bk,T.keeps I1.bk,λ h' e hmade=>lk.made I1 hr.base (by rw [hx];exact hm) f hmade⟩
end
structure XTop (K:PySem.W.Frag) (D:Addr):Prop extends XCls K D where
 ty:typeIn K (.ref D)=some (.type "type")
theorem Afe {K:PySem.W.Frag}{M:Model}{A:Around}{E:Value->Shared->Prop}{Q:Bool->Shared->Prop}{h:Heap}{g:Array GenState}{d:Drawn}{t:Nat}{os:OsState}{e C D:Addr}{oe:Obj}(X:K.In h) (XD:XTop K D) (he:h.get? e=some oe) (hcls:oe.cls=.ref C) (hs:mroIn K C (.ref D)=some true)
  (hq:Q true ⟨h,g,d,t,os⟩):wpAny M A (excMatches (.ref e) (.ref D)) Q E ⟨h,g,d,t,os⟩:=by
 have LT:Looks M h (typeOf (.ref D)) (.type "type"):=looks_typeIn X XD.ty
 have LB:=looks_mroIn (M:=M) X XD.be
 have LS:=looks_mroIn (M:=M) X hs
 obtain⟨c',d',cd,sl,ho⟩:=XD.obj
 have hD:=X _ _ ho
 have f:=tc_notTuple
 unfold excMatches
 repeat (first|with_reducible refine LT.at ?_|with_reducible refine LB.at ?_|with_reducible refine LS.at ?_|(with_reducible refine wpAny_loadPart_at he ?_;rw [hcls])|with_reducible refine wpAny_loadPart_at hD ?_|wp_step)
 exact hq
def HE (X:Cx) (a:Addr) (i:Nat) (e:Expr) (v:V):Prop:=PE X e λ σ H Q=>σ[i]?=some (some (.ref a))/\Q v H
def HT (X:Cx) (a:Addr) (i:Nat) (e:Expr) (b:Bool):Prop:=PT X e λ σ H Q=>σ[i]?=some (some (.ref a))/\Q b H
def HS (X:Cx) (a:Addr) (i:Nat) (sts:List Stmt) (v:V):Prop:=PSs X sts λ D σ H=>σ[i]?=some (some (.ref a))/\D.rt v H
def Pnd (X:Cx) (a C:Addr):Prop:=∃ o vs,(a,o)∈X.pn/\o.cls=.ref C/\o.data=.fields vs
section
variable {X:Cx}{a C:Addr}{i:Nat}{e e':Expr}{v:V}{b b':Bool}{p p2 p3 pos:Pos}{n y:Str}{sts rest:List Stmt}
theorem Ayf (hp:Pnd X a C) (XC:XCls X.K C) {c:Value}{cv:V}(rc:RelV cv c) (hc:∀ u,RelV cv u->u=c) (k:kitOne X.K (.ref C) c=some b):Fy X (.builtin "isinstance") λ xs H Q=>xs=[.ref a,cv]/\Q (.bl b) H:=by
 rintro pins s σ H xs us Q I r ⟨rfl,q⟩
 obtain⟨u,w',rfl,r1,r2⟩:=vals2 r
 cases r1
 obtain rfl:=hc _ r2
 obtain⟨o,vs,h1,h2,h3⟩:=hp
 exact Abx I XC ⟨o,vs,(I.pin _ (List.mem_append_left _ h1)).1,h2,h3⟩ k λ tk=>⟨.bl b,H,I.tok _,rfl,q⟩
theorem Ajf (hp:Pnd X a C) (XC:XCls X.K C) (hg:Gl X "isinstance") (hm:X.mg "isinstance"=none) {c:Value}{cv:V}(rc:RelV cv c) (hc:∀ u,RelV cv u->u=c) (k:kitOne X.K (.ref C) c=some b) (hy:PE X (.Name y p3) (tC cv))
  (hN:X.N[i]?=some n:=by rfl) (hv:Vis X.env.scope n:=by first|exact Or.inl rfl|exact Or.inr (Or.inl rfl)|exact Or.inr (Or.inr rfl)) (hd:(n == ("__debug__":Str))=false:=by decide) (hcd:(n == ("__classdict__":Str))=false:=by decide)
  (hs:starEach [.Name n p2,.Name y p3] X.env=(false,eval (.Name n p2) X.env) :: starEach [.Name y p3] X.env:=by rfl) (hs2:starEach [.Name y p3] X.env=(false,eval (.Name y p3) X.env) :: starEach [] X.env:=by rfl) (hpl:(backTo pos (starEach [.Name y p3] X.env)).any (·.1)=false:=by rfl) :
  HE X a i (.Call (.Name "isinstance" p) [.Name n p2,.Name y p3] [] pos) (.bl b) :=
 (Ls (Ayf hp XC rc hc k) hg hm (by decide +kernel) (Ak (pv i hN hv hd hcd) (Ak hy Bl hs2) hs) (he:=hs) (hpl:=hpl)).imp λ σ H Q ⟨h1,h2⟩=>⟨_,h1,rfl,h2⟩
theorem Ci (hp:Pnd X a C) (XC:XCls X.K C) (hg:Gl X "isinstance") (hm:X.mg "isinstance"=none) {D:Addr}(hgy:Gl X y) (hy:X.mg y=some (.ref D)) (k:kitOne X.K (.ref C) (.ref D)=some b) (hdy:(y == ("__debug__":Str))=false:=by decide)
  (hN:X.N[i]?=some n:=by rfl) (hv:Vis X.env.scope n:=by first|exact Or.inl rfl|exact Or.inr (Or.inl rfl)|exact Or.inr (Or.inr rfl)) (hd:(n == ("__debug__":Str))=false:=by decide) (hcd:(n == ("__classdict__":Str))=false:=by decide)
  (hs:starEach [.Name n p2,.Name y p3] X.env=(false,eval (.Name n p2) X.env) :: starEach [.Name y p3] X.env:=by rfl) (hs2:starEach [.Name y p3] X.env=(false,eval (.Name y p3) X.env) :: starEach [] X.env:=by rfl) (hpl:(backTo pos (starEach [.Name y p3] X.env)).any (·.1)=false:=by rfl) :
  HE X a i (.Call (.Name "isinstance" p) [.Name n p2,.Name y p3] [] pos) (.bl b) :=
 Ajf hp XC hg hm (c:=.ref D) (cv:=.ref D) rfl (λ _ h=>h) k (Ms hgy hy rfl hdy) hN hv hd hcd hs hs2 hpl
theorem Wu (T:String) (hp:Pnd X a C) (XC:XCls X.K C) (hg:Gl X "isinstance") (hm:X.mg "isinstance"=none) (hgy:Gl X y) (hy:X.mg y=none) (k:kitOne X.K (.ref C) (.type T)=some b) (hb:bootBuiltins y=some (.type T):=by decide +kernel) (hny:y≠"__name__":=by decide) (hdy:(y == ("__debug__":Str))=false:=by decide)
  (hN:X.N[i]?=some n:=by rfl) (hv:Vis X.env.scope n:=by first|exact Or.inl rfl|exact Or.inr (Or.inl rfl)|exact Or.inr (Or.inr rfl)) (hd:(n == ("__debug__":Str))=false:=by decide) (hcd:(n == ("__classdict__":Str))=false:=by decide)
  (hs:starEach [.Name n p2,.Name y p3] X.env=(false,eval (.Name n p2) X.env) :: starEach [.Name y p3] X.env:=by rfl) (hs2:starEach [.Name y p3] X.env=(false,eval (.Name y p3) X.env) :: starEach [] X.env:=by rfl) (hpl:(backTo pos (starEach [.Name y p3] X.env)).any (·.1)=false:=by rfl) :
  HE X a i (.Call (.Name "isinstance" p) [.Name n p2,.Name y p3] [] pos) (.bl b) :=
 Ajf hp XC hg hm (c:=.type T) (cv:=.ty T) rfl (λ _ h=>h) k (Aj8 hgy hy hb rfl hny hdy) hN hv hd hcd hs hs2 hpl
end
section
variable {X:Cx}{pins:List (Addr × Obj)}{σ:L2.St}{H H':Hp}{s s':Shared}{B h':Heap}{C e:Addr}{o:Obj}
theorem Aed {M:Model}{A:Around}{E:Value->Shared->Prop}{i:Nat}{n:Str}{pos:Pos}{Q:Unit->Shared->Prop}(I:Inv X pins σ H s) (hN:X.N.Nodup) (hi:X.N[i]?=some n) (hl:X.env.kindOf n=some .local) (h:∀ s',Inv X pins (σ.set i none) H s'->Q () s') :
  wpAny M A (do bindName X.env n .none;unbindBehindTheSuite X.env n pos) Q E s:=by
 obtain⟨m,hn,hlk⟩:=id I.loc
 refine wpAny_nameGoes_keeps hl hn (by rw [I.ok.kind];rfl) λ h' v hn' hs=>h _ ?_
 have lt:∀ b o,X.s₀.heap.get? b=some o->b≠X.env.locals:=λ b o z=>Nat.ne_of_lt (Nat.lt_of_lt_of_le (Heap.lt_size z) I.ok.above)
 have hiσ:i<σ.length:=by rw [I.len];exact (List.getElem?_eq_some_iff.mp hi).1
 refine⟨I.ok,I.os,I.bare,⟨λ b o z n hb hx=>(hs.2 b (lt b o z)).trans (I.base.keep b o z n hb hx),λ b o z n hb hx=>?_,I.base.free,λ b o z hx=>?_,I.base.tups,I.base.frzs,I.base.tbls⟩,⟨_,hn',λ j y w e1 e2 e3=>?_⟩,λ y c z=>?_,I.free,I.freeC,λ p hp=>?_,λ b u z=>?_,by rw [List.length_set];exact I.len⟩
 ·obtain⟨sl,q⟩:=I.base.slot b o z n hb hx
  exact⟨sl,(hs.2 b (lt b o z)).trans q⟩
 ·obtain⟨o',q⟩:=I.base.there b o z hx
  exact⟨o',(hs.2 b (lt b o z)).trans q⟩
 ·by_cases hj:j=i
  ·subst hj
   rw [List.getElem?_set_self hiσ] at e2
   cases e2
  ·rw [List.getElem?_set_ne (Ne.symm hj)] at e2
   obtain⟨u,r,q⟩:=hlk j y w e1 e2 e3
   refine⟨u,r,?_⟩
   rcases q with ⟨k,q⟩|⟨k,c,q,z⟩
   ·have ne:y≠n:=λ q=>hj (Sx hN e1 (q ▸ hi))
    exact .inl ⟨k,by simp [ne,q]⟩
   ·exact .inr ⟨k,c,q,z.sameBut hs (I.cne y c q)⟩
 ·obtain⟨w,q⟩:=I.cell y c z
  exact⟨w,q.sameBut hs (I.cne y c z)⟩
 ·obtain⟨q,a1,a2,a3⟩:=I.pin p hp
  exact⟨(hs.2 p.1 a2).trans q,a1,a2,a3⟩
 ·refine (I.hok b u z).stay (λ c v hc q=>(hs.2 c ?_).trans q) (λ _ q=>q) λ _ _ q=>q
  intro ec
  have fr:=I.free
  rw [<-ec] at fr
  rcases hc with rfl|hc
  ·rw [fr] at z;cases z
  ·rw [fr] at hc;cases hc
theorem Fly.here (I:Inv X pins σ H s) (F:Fly X.prog X.w X.stack H s C e H' s') (c2:∀ b o,s.heap.get? b=some o->H b=none->b∉frs X.stack->B.get? b=some o) (c3:∀ b u o,H' b=some u->s'.heap.get? b=some o->B.get? b=some o) (k:B.StaysIn h') (up:s'.heap.UpToSlots h'):Inv X pins σ H' { s' with heap:=h' }:=by
 have no:∀ b:Addr,b∉([]:List Addr):=λ b=>by simp
 have sl:∀ b o,s.heap.get? b=some o->H b=none->b∈frs X.stack->∃ sl,h'.get? b=some { o with slots:=sl }:=λ b o q n hb=>by
  obtain⟨sl,e⟩:=F.un.slot b o q n hb (no b)
  obtain⟨_,o',ho',hd⟩:=I.stack.mem hb
  rw [q] at ho';cases ho'
  obtain⟨sl',e'⟩:=up b { o with slots:=sl } e hd
  exact⟨sl',e'⟩
 refine I.call' (s':={ s' with heap:=h' }) (ch:=[]) F.os ⟨λ b o q n hb _=>k b o (c2 b o q n hb),λ b o q n hb _=>sl b o q n hb,F.un.free,λ b o q _=>?_,F.un.tups,F.un.frzs,F.un.tbls⟩ (S8 F.hok c3 k) F.bare (λ b z=>absurd z (no b))
 cases n:H b with
 | none =>
  by_cases hb:b∈frs X.stack
  ·obtain⟨_,e⟩:=sl b o q n hb;exact⟨_,e⟩
  ·exact⟨o,k b o (c2 b o q n hb)⟩
 | some u =>
  obtain⟨ob,e⟩:=Aaf (F.hok b u (F.same b u n))
  exact⟨ob,k _ _ (c3 b u ob (F.same b u n) e)⟩
abbrev hcx (X:Cx) (e:Addr) (o:Obj):Cx:={ X with A:=X.A.mark (some (.ref e)),calm:=false,pn:=(e,o) :: X.pn,xe:=λ _ _=>False }
theorem Acs {vs:Array Value}(I:Inv X pins σ H s) (h1:s.heap.get? e=some o) (h2:H e=none) (h3:o.data=.fields vs):Inv (hcx X e o) pins σ H s:=by
 have nL:e≠X.env.locals:=λ z=>by
  obtain⟨m,⟨o',es,ep,ho,hd,_⟩,_⟩:=I.loc
  rw [<-z,h1] at ho;cases ho
  rw [h3] at hd;cases hd
 have nF:e∉X.fs:=λ z=>by
  obtain⟨_,o',ho,hd⟩:=I.funs.mem z
  rw [h1] at ho;cases ho
  exact hd vs h3
 have ok:=I.ok
 refine⟨⟨ok.mod,ok.kind,ok.glob,ok.blt,ok.above,ok.inj,ok.has,ok.cab,λ z=>(nomatch (show false=true from z)),ok.frames,ok.stk,ok.exf,ok.bs,ok.bsz,ok.noex,ok.exfs,ok.funs,ok.frf⟩,I.os,I.bare,I.base,I.loc,I.cell,I.free,I.freeC,λ p hp=>?_,I.hok,I.len⟩
 rcases List.mem_append.mp hp with hp|hp
 ·rcases List.mem_cons.mp hp with rfl|hp
  ·exact⟨h1,h2,nL,nF,λ v q=>by rw [h3] at q;cases q⟩
  ·exact I.pin p (List.mem_append_left _ hp)
 ·exact I.pin p (List.mem_append_right _ hp)
end
def SX (X:Cx) (G:Fc) (st:Stmt) (m:EX):Prop:=∀ (xe:Value->Shared->Prop) (pins:List (Addr × Obj)) (s:Shared) (σ:L2.St) (H:Hp) (D:Ends) (Ev:Ev),Inv X pins σ H s->Rel X.K G Ev σ H →
 Fin (m Ev) (Pj X.K G D) (λ c=>∀ H1 s1 H' s' e C,Inv X pins σ H1 s1->Same H H1->Fly X.prog X.w X.stack H1 s1 C e H' s'->X.mg (cname c)=some (.ref C)->xe (.ref e) s')->wpAny (model X.prog X.w) X.A (exec st X.env) (SP X pins D) xe s
section
variable {X:Cx}{G:Fc}{k j:Nat}{ps:List Str}{dn:List D->R D}{x:Str}{p pos pos':Pos}{e:Expr}{es:List Expr}{ma:Ev->R (List D)}
theorem Af3 (C:CalE X.prog X.w X.K X.mg X.base x ps k dn) (hr:Room j X.A) (hk:k<=j) (hg:Gl X x) (ha:∀ G:Fc,(∀ c,¬ G.xc c)->SA X.nox G (e :: es) ma) (hs:swapsWith (.Call (.Name x p) (e :: es) [] pos) none pos'.line X.env=pure false:=by rfl) (hdb:(x == ("__debug__":Str))=false:=by decide) (he:starEach (e :: es) X.env=(false,eval e X.env) :: starEach es X.env:=by rfl) (hpl:(backTo pos (starEach es X.env)).any (·.1)=false:=by rfl) :
  SX X G (.Expr (.Call (.Name x p) (e :: es) [] pos) pos') (xDo (Am ps.length dn (M.calm ma))):=by
 obtain⟨f,fd,hm,hk',hb,F⟩:=C.ex
 intro xe pins s σ H D Ev I hrl fn
 refine wpAny_Expr_any (thn (Vl (X:=X.wish xe) (Q:=λ _ H1=>D.nx σ H1) F (hr.mono hk) hg hm hk' hb ha (I.wish xe) hrl ((Fin.bind fn).mono λ d p v H' s z=>p σ H' (hrl.same s)) (λ c H1 s1 H' s' e C z I1 sm F' hm'=>z H1 s1 H' s' e C I1.unwish sm F' hm') hdb he hpl) ?_) I.quiet hs
 rintro u s1 ⟨v,H1,I1,r,q⟩
 exact⟨σ,H1,I1.unwish,q⟩
end
structure Took (X:Cx) (i:Nat) (D:Addr) (sts:List Stmt) (hd:Nat->Option M.D):Prop where
 at_:∀ c d C e o vs,hd c=some d->X.mg (cname c)=some (.ref C)->o.cls=.ref C->o.data=.fields vs->mroIn X.K C (.ref D)=some true/\∃ v,HS (hcx X e o) e i sts v/\∀ K H O,Rp K H O d v
section
variable {X:Cx}{G:Fc}
end
theorem Lj {K:PySem.W.Frag}{C:Addr}:kitOne K (.ref C) (.ref C)=some true:=by
 unfold kitOne
 rw [if_pos (beq_self_eq_true _)]
theorem Bu {K:PySem.W.Frag}{C D:Addr}{b:Bool}(t:XTop K D) (ne:C≠D) (k:mroIn K C (.ref D)=some b):kitOne K (.ref C) (.ref D)=some b:=by
 obtain⟨c,d,cd,sl,ho⟩:=t.obj
 have h1:(clsIn K D).isSome=true:=by unfold clsIn;rw [ho];rfl
 have h2:(Value.ref C == Value.ref D)=false:=Bool.eq_false_iff.mpr λ q=>ne (Value.ref.inj (beq_iff_eq.mp q))
 unfold kitOne
 rw [if_neg (by rw [h2];decide)]
 unfold kitCls
 dsimp only
 rw [if_pos (by rw [h1,t.ty];exact beq_self_eq_true _)]
 exact k
theorem Og {K:PySem.W.Frag}{C:Addr}{b:Bool}(T:String) (hT:kitMeta T=true) (k:mroIn K C (.type T)=some b):kitOne K (.ref C) (.type T)=some b:=by
 unfold kitOne
 rw [if_neg (by simp)]
 unfold kitCls
 dsimp only
 rw [if_pos hT]
 exact k
theorem xtop_mk {K:PySem.W.Frag}{C:Addr}(ga:findIn K (.ref C) "__getattribute__"=some (some (.builtin "BaseException.__getattribute__"))) (gn:findIn K (.ref C) "__getattr__"=some none) (cl:findIn K (.ref C) "__class__"=some (some (.builtin "object.__class__")))
  (be:mroIn K C (.type "BaseException")=some true) (ob:mroIn K C (.type "object")=some true) (ty:typeIn K (.ref C)=some (.type "type")):XTop K C:=⟨⟨ga,gn,cl,be,ob⟩,ty⟩
noncomputable def Qy (dn:List D->R D):List D->R D:=λ ds=>match dn ds with
 | .ok d=>.ok d
 | _=>.no
theorem CalE.cal {P:Program}{w:World}{K:PySem.W.Frag}{mg:Str->Option Value}{base:Heap}{x:Str}{ps:List Str}{k:Nat}{dn:List D->R D}(C:CalE P w K mg base x ps k dn):Cal P w K mg base x ps k (Qy dn):=by
 obtain⟨f,fd,h1,h2,h3,F⟩:=C.ex
 refine⟨f,fd,h1,h2,h3,⟨λ vs H Q E h=>h.1,λ A outer s H args us vs Q E hr e0 hb r ⟨hl,pr,ds,hp,rs,fn⟩=>?_⟩⟩
 refine codeAny_mono (F.run A outer s H args us vs Q E0 hr e0 hb r ⟨hl,pr,ds,hp,rs,?_⟩) λ r s' q=>?_
 ·unfold Qy at fn
  cases e:dn ds with
  | ok d=>rw [e] at fn;exact fn
  | er c=>rw [e] at fn;exact fn.elim
  | no=>rw [e] at fn;exact fn.elim
 ·rcases r with e|fl
  ·obtain⟨_,_,_,_,_,z⟩:=q
   exact z.elim
  ·rcases fl with _|_|_|u
   all_goals exact q
theorem Jx:∀ {ns:List Int}{its:List Value},Vals (ns.map V.int) its->∃ xs:List (Int × Tok),its=xs.map (λ p=>.int p.1 p.2)/\xs.map (·.1)=ns
 | [],its,h=>by cases h;exact⟨[],rfl,rfl⟩
 | n :: ns,its,h=>by
  cases h with
  | cons a b =>
   obtain⟨t,rfl⟩:=a
   obtain⟨xs,rfl,rfl⟩:=Jx b
   exact⟨(n,t) :: xs,rfl,rfl⟩
def Avm (K:PySem.W.Frag):List V->Hp->VK->Prop:=λ xs H Q=>∃ (p:Addr) (ns:List Int),xs=[.ref p]/\SqL K H p (ns.map V.int)/\Q (.int ns.sum) H
theorem Aev {X:Cx}(hc:X.calm=true):Fy X (.builtin "sum") (Avm X.K):=by
 intro pins s σ H xs us Q I r h
 obtain⟨p,ns,rfl,hp,q⟩:=h
 obtain⟨u,rfl,ru⟩:=vals1 r
 cases ru
 obtain⟨its,rv,pl,hz⟩:=I.list hp
 obtain⟨ys,rfl,rfl⟩:=Jx rv
 have hl:s.heap.IsList p (PySem.intItems ys.toArray):=by
  have e:PySem.intItems ys.toArray=(ys.map λ p=>Value.int p.1 p.2).toArray:=by simp [PySem.intItems]
  rw [e];exact pl.isList
 refine sum_intListG (I.ok.hd hc) hl λ h' tk t' k=>⟨.int (ys.map (·.1)).sum,H,I.kept k,⟨t',?_⟩,q⟩
 rw [preSum_eq,List.take_of_length_le (by simp)]
noncomputable def nums:List D->Option (List Int)
 | []=>some []
 | .int b :: r=>(nums r).map (b :: ·)
 | _ :: _=>none
theorem W6:∀ {ds:List D}{bs:List Int},nums ds=some bs->ds=bs.map D.int
 | [],bs,h=>by simp [nums] at h;subst h;rfl
 | .int i :: r,ns,h=>by
  simp only [nums,Option.map_eq_some_iff] at h
  obtain⟨ms,h1,rfl⟩:=h
  rw [W6 h1];rfl
 | .non :: r,ns,h=>by simp [nums] at h
 | .bl _ :: r,ns,h=>by simp [nums] at h
 | .str _ :: r,ns,h=>by simp [nums] at h
 | .tup _ :: r,ns,h=>by simp [nums] at h
 | .lst _ :: r,ns,h=>by simp [nums] at h
 | .dic _ :: r,ns,h=>by simp [nums] at h
 | .scr _ :: r,ns,h=>by simp [nums] at h
@[simp] theorem Ahs:∀ bs:List Int,nums (bs.map D.int)=some bs
 | []=>rfl
 | n :: ns=>by simp [nums,Ahs ns]
theorem Rps.nums {K:PySem.W.Frag}{H:Hp}{O:Addr->Prop}:∀ {ns:List Int}{vs:List V},Rps K H O (ns.map D.int) vs->vs=ns.map V.int
 | [],vs,h=>by unfold Rps at h;exact h
 | n :: ns,vs,h=>by
  unfold Rps at h
  obtain⟨v,r,rfl,p,q⟩:=h
  unfold Rp at p
  rw [p,Rps.nums q];rfl
noncomputable def Aro:D->Option D
 | .lst ds=>(nums ds).map λ bs=>.int bs.sum
 | _=>none
theorem Apx {K:PySem.W.Frag}:CallD K (Avm K) Aro:=λ H O dx d v Q fr e rx q=>by
 cases dx with
 | lst ds =>
  simp only [Aro,Option.map_eq_some_iff] at e
  obtain⟨bs,e,rfl⟩:=e
  obtain⟨a,vs,rfl,h1,r1⟩:=rx.lst
  rw [W6 e] at r1
  exact⟨a,bs,rfl,SqL.of (by rw [<-r1.nums];exact h1),q _ H (Same.refl _) (by unfold Rp;rfl)⟩
 | _=>cases e
noncomputable def Aru:D->D->Option D
 | .int i,.int j=>if 0<=j/\j<=1000/\i.natAbs<2 ^ 63 then some (.int (i * 2 ^ j.toNat)) else none
 | _,_=>none
theorem Ao9 {K:PySem.W.Frag}:OpD K (rI Ar9 λ i j=>.int (i * 2 ^ j.toNat)) Aru:=V0 (g:=λ i j=>.int (i * 2 ^ j.toNat)) (λ dx dy d e=>by
 cases dx<;>cases dy<;>simp [Aru] at e
 obtain⟨c,e⟩:=e
 exact⟨_,_,rfl,rfl,⟨c.1,by omega,by omega⟩,e.symm⟩) λ _ _ _ _=>by unfold Rp;rfl
section
variable {X:Cx}{G:Fc}{e a b:Expr}{m ma mb:EV}{p pos:Pos}
theorem Aou (gd:Gd X) (hg:Gl X "sum") (hm:X.mg "sum"=none) (he:SE X G e m) (hs:starEach [e] X.env=(false,eval e X.env) :: starEach [] X.env:=by rfl) (hpl:(backTo pos (starEach [] X.env)).any (·.1)=false:=by rfl):SF X G (.Call (.Name "sum" p) [e] [] pos) (e1 Aro m) :=
 N7 (Aev gd.calm) Apx hg hm (by decide +kernel) he (hs:=hs) (hpl:=hpl)
theorem Ant (ha:SE X G a ma) (hb:SE X G b mb):SF X G (.BinOp a .LShift b pos) (e2 Aru ma mb):=Pk Apk Ao9 ha hb
end
noncomputable def Cp (b w:Int):Int:=Builtin.bitAnd b (-b) * (if w=0 then 3 else 513)
noncomputable def okI (b w:Int):Bool:=decide (Builtin.bitAnd b (Cp b w)=Cp b w)
def WF:Nat->Int->Int
 | 0,_=>1
 | n+1,b=>if b=0 then 1 else (if okI b 0=true then WF n (b-Cp b 0) else 0)+(if okI b 1=true then WF n (b-Cp b 1) else 0)
noncomputable def Dp:Nat->Int->Prop
 | 0,b=>b=0
 | n+1,b=>b=0\/∀ w:Int,(w=0\/w=1)->okI b w=true->Dp n (b-Cp b w)
theorem Y6:∀ (n m:Nat) (b:Int),Dp n b->n<=m->WF m b=WF n b
 | 0,m,b,h,_=>by
  have h:b=0:=h
  subst h
  cases m with
  | zero=>rfl
  | succ m=>simp [WF]
 | n+1,0,b,_,l=>absurd l (by omega)
 | n+1,m+1,b,h,l=>by
  unfold WF
  rcases h with h|h
  ·simp [h]
  ·have e:∀ w:Int,(w=0\/w=1)->okI b w=true->WF m (b-Cp b w)=WF n (b-Cp b w):=λ w hw ho=>Y6 n m _ (h w hw ho) (by omega)
   by_cases hb:b=0
   ·simp [hb]
   ·rw [if_neg hb,if_neg hb]
    congr 1
    ·by_cases ho:okI b 0=true
     ·rw [if_pos ho,if_pos ho,e 0 (.inl rfl) ho]
     ·rw [if_neg ho,if_neg ho]
    ·by_cases ho:okI b 1=true
     ·rw [if_pos ho,if_pos ho,e 1 (.inr rfl) ho]
     ·rw [if_neg ho,if_neg ho]
noncomputable def WM (b:Int):Int:=WF 40 b
noncomputable def Ly (b w:Int):Int:=if okI b w=true then WM (b-Cp b w) else 0
theorem Adf:WM 0=1:=by unfold WM WF;simp
theorem Aee {n:Nat}{b:Int}(h:Dp (n+1) b) (hn:n<40) (hb:b≠0):WM b=Ly b 0+Ly b 1:=by
 have hs:∀ w:Int,(w=0\/w=1)->okI b w=true->WF 39 (b-Cp b w)=WM (b-Cp b w):=λ w hw ho=>by
  have d:Dp n (b-Cp b w):=by
   rcases h with h|h
   ·exact absurd h hb
   ·exact h w hw ho
  unfold WM
  rw [Y6 n 39 _ d (by omega),Y6 n 40 _ d (by omega)]
 show WF 40 b=_
 unfold WF Ly
 rw [if_neg hb]
 congr 1
 ·by_cases ho:okI b 0=true
  ·rw [if_pos ho,if_pos ho,hs 0 (.inl rfl) ho]
  ·rw [if_neg ho,if_neg ho]
 ·by_cases ho:okI b 1=true
  ·rw [if_pos ho,if_pos ho,hs 1 (.inr rfl) ho]
  ·rw [if_neg ho,if_neg ho]
def Good (kvs:List (Key × V)):Prop:=∀ p∈kvs,∃ j:Int,p.1=.inl j/\p.2=.int (WM j)
theorem Good.val {kvs:List (Key × V)}(g:Good kvs) {b:Int}{v:V}(h:Nf kvs (Sum.inl b)=some v):v=.int (WM b):=by
 unfold Nf at h
 obtain⟨p,h1,rfl⟩:=Option.map_eq_some_iff.mp h
 have h2:=List.find?_some h1
 obtain⟨j,e1,e2⟩:=g p (List.mem_of_find?_eq_some h1)
 have:p.1=Sum.inl b:=by simpa using h2
 rw [e1] at this
 cases this
 exact e2
theorem Good.put {kvs:List (Key × V)}(g:Good kvs) (b:Int):Good (putK kvs (Sum.inl b) (.int (WM b)))/\(putK kvs (Sum.inl b) (.int (WM b))).length<=kvs.length+1:=by
 unfold putK
 split
 ·refine⟨λ p hp=>?_,by simp⟩
  obtain⟨x,hx,rfl⟩:=List.mem_map.mp hp
  by_cases e:x.1=Sum.inl b
  ·rw [if_pos e];exact⟨b,e,rfl⟩
  ·rw [if_neg e];exact g x hx
 ·refine⟨λ p hp=>?_,by simp⟩
  rcases List.mem_append.mp hp with hp|hp
  ·exact g p hp
  ·simp only [List.mem_cons,List.not_mem_nil,or_false] at hp
   subst hp
   exact⟨b,rfl,rfl⟩
noncomputable def spS:Sp:=λ vs H Q _=>∃ b w,vs=[.int b,.int w]/\(w=0\/w=1)/\Q (.int (Cp b w)) H
noncomputable def spO (n:Nat):Sp:=λ vs H Q _=>∃ b k kvs,vs=[.int b,.ref k]/\H k=some (.dK kvs)/\Good kvs/\Dp n b/\n<=20/\kvs.length+2 ^ n<=2 ^ 21/\∀ kvs',Good kvs'->kvs'.length+1<=kvs.length+2 ^ n->Q (.int (WM b)) (upd H k (.dK kvs'))
noncomputable def spW (n:Nat):Sp:=λ vs H Q _=>∃ b w k kvs,vs=[.int b,.int w,.ref k]/\(w=0\/w=1)/\H k=some (.dK kvs)/\Good kvs/\(okI b w=true->Dp n (b-Cp b w))/\n<=20/\kvs.length+2 ^ n<=2 ^ 21/\∀ kvs',Good kvs'->kvs'.length+1<=kvs.length+2 ^ n->Q (.int (Ly b w)) (upd H k (.dK kvs'))
theorem N6 {H:Hp}{k:Addr}{o:HO}(h:H k=some o):upd H k o=H:=by
 funext b
 unfold upd
 split
 ·rename_i e;rw [e,h]
 ·rfl
abbrev Ahm:R2:=rI0 λ i j=>.int (i+j)
abbrev Acd:R2:=rI0 λ i j=>.int (i-j)
abbrev Als:R2:=rI0 λ i j=>.int (Builtin.bitAnd i j)
abbrev Aud:R2:=rI Am9 λ i j=>.int (i * j)
noncomputable def Ass (K:PySem.W.Frag) (sa:Addr):TS:=Z6 (tOp Aud (tOp Als (Dr 0) (tUn (rU λ i=>.int (-i)) (Dr 0))) (tOp (Am4 K) (tC (.ref sa)) (Dr 1)))
theorem Abd {K:PySem.W.Frag}{sa:Addr}{D:Ends}{H:Hp}{vs:List V}{Q:VK}{E:XK}(hs:SqT K H sa [.int 3,.int 513]) (h:spS vs H Q E):Ass K sa { nx:=λ _ H'=>Q .non H',rt:=Q } (start ["bare","way"] vs) H:=by
 obtain⟨b,w,rfl,hw,q⟩:=h
 refine⟨_,rfl,_,rfl,_,rfl,b,-b,rfl,rfl,_,rfl,sa,[.int 3,.int 513],w,.int (if w=0 then 3 else 513),rfl,rfl,hs,?_,Builtin.bitAnd b (-b),_,rfl,rfl,.inr ?_,q⟩
 ·rcases hw with rfl|rfl<;>rfl
 ·rcases hw with rfl|rfl<;>decide
noncomputable def As3 (sp:Sp):TS:=Mw (R6 (Jj spS [] E0 (Bw (Dr 0) (Bw (Dr 1) K7))) (Hg 3)) (Mw (Aic (Rh (tOp rNe (tOp Als (Dr 0) (Dr 3)) (Dr 3))) (Z6 (tC (.int 0))) Ul)
 (Z6 (Jj sp [] E0 (Bw (tOp Acd (Dr 0) (Dr 3)) (Bw (Dr 2) K7)))))
theorem Aci {n:Nat}{H:Hp}{vs:List V}{Q:VK}{E:XK}(h:spW n vs H Q E):As3 (spO n) { nx:=λ _ H'=>Q .non H',rt:=Q } (start ["bare","way","known","span"] vs) H:=by
 obtain⟨b,w,k,kvs,rfl,hw,hk,g,hd,hn,hl,q⟩:=h
 refine⟨_,rfl,_,rfl,b,w,rfl,hw,?_⟩
 refine⟨_,rfl,_,rfl,b,Cp b w,rfl,rfl,_,rfl,rfl,_,rfl,?_⟩
 by_cases ho:okI b w=true
 ·have e:(V.int (Builtin.bitAnd b (Cp b w))=V.int (Cp b w)):=by rw [of_decide_eq_true ho]
  have e2:(!decide (V.int (Builtin.bitAnd b (Cp b w))=V.int (Cp b w)))=false:=by simp [e]
  rw [e2]
  refine Acr ?_
  refine⟨_,rfl,_,rfl,b,Cp b w,rfl,rfl,_,rfl,b-Cp b w,k,kvs,rfl,hk,g,hd ho,hn,hl,λ kvs' g' l'=>?_⟩
  have:=q kvs' g' l'
  unfold Ly at this
  rw [if_pos ho] at this
  exact this
 ·have ne:¬ (V.int (Builtin.bitAnd b (Cp b w))=V.int (Cp b w)):=λ z=>ho (decide_eq_true (V.int.inj z))
  have e2:(!decide (V.int (Builtin.bitAnd b (Cp b w))=V.int (Cp b w)))=true:=by simp [ne]
  rw [e2]
  refine Afq ?_
  have:=q kvs g (by have:=Nat.one_le_two_pow (n:=n);omega)
  unfold Ly at this
  rw [if_neg ho,N6 hk] at this
  exact this
noncomputable def Ape (sp:Sp):TS:=Mw (Aic (Rh (tOp rEq (Dr 0) (tC (.int 0)))) (Z6 (tC (.int 1))) Ul) (Mw (Aic (tB (Yz (Dr 0) (Dr 1)))
 (Apn (Dr 1) (Dr 0) (tOp Ahm (Jj sp [] E0 (Bw (Dr 0) (Bw (tC (.int 0)) (Bw (Dr 1) K7)))) (Jj sp [] E0 (Bw (Dr 0) (Bw (tC (.int 1)) (Bw (Dr 1) K7)))))) Ul) (Z6 (Amt (Dr 1) (Dr 0))))
theorem Aa7 {n:Nat}{H:Hp}{vs:List V}{Q:VK}{E:XK}(h:spO (n+1) vs H Q E):Ape (spW n) { nx:=λ _ H'=>Q .non H',rt:=Q } (start ["bare","known"] vs) H:=by
 obtain⟨b,k,kvs,rfl,hk,g,hd,hn,hl,q⟩:=h
 have p1:2 ^ (n+1)=2 * 2 ^ n:=by rw [Nat.pow_succ];omega
 have p0:=Nat.one_le_two_pow (n:=n)
 refine⟨_,rfl,rfl,_,rfl,?_⟩
 by_cases hb:b=0
 ·subst hb
  refine Afq ?_
  have:=q kvs g (by omega)
  rw [Adf,N6 hk] at this
  exact this
 ·have e:decide (V.int b=V.int 0)=false:=by simp [hb]
  rw [e]
  refine Acr ?_
  have hd':∀ w:Int,(w=0\/w=1)->okI b w=true->Dp n (b-Cp b w):=by
   rcases hd with z|z
   ·exact absurd z hb
   ·exact z
  refine⟨_,rfl,_,rfl,k,_,rfl,Xb.k (k:=Sum.inl b) hk,_,rfl,?_⟩
  cases ev:Nf kvs (Sum.inl b) with
  | some v =>
   refine Acr ?_
   refine⟨_,rfl,_,rfl,k,v,rfl,?_,?_⟩
   ·rw [<-ev];exact Xb.k (k:=Sum.inl b) hk
   ·rw [g.val ev]
    have:=q kvs g (by omega)
    rw [N6 hk] at this
    exact this
  | none =>
   refine Afq ?_
   refine⟨_,rfl,_,rfl,b,0,k,kvs,rfl,.inl rfl,hk,g,hd' 0 (.inl rfl),by omega,by omega,λ kvs1 g1 l1=>?_⟩
   refine⟨_,rfl,_,rfl,b,1,k,kvs1,rfl,.inr rfl,Aj,g1,hd' 1 (.inr rfl),by omega,by omega,λ kvs2 g2 l2=>?_⟩
   rw [Mp]
   refine⟨_,_,rfl,rfl,_,rfl,_,rfl,k,_,rfl,Air.k (k:=Sum.inl b) Aj ?_,?_⟩
   ·show kvs2.length<2 ^ 24
    omega
   ·rw [Mp]
    show Z6 (Amt (Dr 1) (Dr 0)) _ _ (upd H k (.dK (putK kvs2 (Sum.inl b) (.int (Ly b 0+Ly b 1)))))
    rw [<-Aee hd (by omega) hb]
    obtain⟨g3,l3⟩:=g2.put b
    have ev3:=Agj kvs2 (Sum.inl b:Key) (Sum.inl b) (.int (WM b))
    rw [if_pos rfl] at ev3
    refine⟨_,rfl,_,rfl,k,.int (WM b),rfl,?_,q _ g3 (by omega)⟩
    rw [<-ev3]
    exact Xb.k (k:=Sum.inl b) Aj
theorem Y7 {sp:Sp}{H:Hp}{vs:List V}{Q:VK}{E:XK}(h:spO 0 vs H Q E):Ape sp { nx:=λ _ H'=>Q .non H',rt:=Q } (start ["bare","known"] vs) H:=by
 obtain⟨b,k,kvs,rfl,hk,g,hd,hn,hl,q⟩:=h
 have hb:b=0:=hd
 subst hb
 refine⟨_,rfl,rfl,_,rfl,?_⟩
 refine Afq ?_
 have:=q kvs g (by omega)
 rw [Adf,N6 hk] at this
 exact this
theorem Ac3 {P:Program}{w:World}{K:PySem.W.Frag}{mg:Str->Option Value}{base:Heap}{k:Nat}{f:Addr}{fd:FuncData}{ps:List Str}:FnOk P w K mg base CX0 k f fd ps (λ _ _ _ _=>False):=⟨λ _ _ _ _ h=>h.elim,λ _ _ _ _ _ _ _ _ _ _ _ _ _ h=>h.elim⟩
theorem Al4 {vs:List V}{H:Hp}{Q:VK}{E:XK}(h:spS vs H Q E):vs.length=2:=by obtain⟨_,_,rfl,_⟩:=h;rfl
theorem Ac1 {n:Nat}{vs:List V}{H:Hp}{Q:VK}{E:XK}(h:spO n vs H Q E):vs.length=2:=by obtain⟨_,_,_,rfl,_⟩:=h;rfl
theorem Alu {n:Nat}{vs:List V}{H:Hp}{Q:VK}{E:XK}(h:spW n vs H Q E):vs.length=3:=by obtain⟨_,_,_,_,rfl,_⟩:=h;rfl
noncomputable def dpB:Nat->Int->Bool
 | 0,b=>decide (b=0)
 | n+1,b=>decide (b=0) || ((!(okI b 0) || dpB n (b-Cp b 0)) && (!(okI b 1) || dpB n (b-Cp b 1)))
theorem Oz:∀ (n:Nat) (b:Int),dpB n b=true ↔ Dp n b
 | 0,b=>by unfold dpB Dp;simp
 | n+1,b=>by
  unfold dpB Dp
  have i0:=Oz n (b-Cp b 0)
  have i1:=Oz n (b-Cp b 1)
  constructor
  ·intro h
   rcases Bool.or_eq_true_iff.mp h with h|h
   ·exact .inl (of_decide_eq_true h)
   ·right
    have h2:=Bool.and_eq_true_iff.mp h
    rintro w (rfl|rfl) ho
    ·exact i0.1 (by have:=h2.1;rw [ho] at this;simpa using this)
    ·exact i1.1 (by have:=h2.2;rw [ho] at this;simpa using this)
  ·rintro (h|h)
   ·simp [h]
   ·have h0:=h 0 (.inl rfl)
    have h1:=h 1 (.inr rfl)
    cases o0:okI b 0<;>cases o1:okI b 1<;>simp [o0,o1] at h0 h1 ⊢<;>simp_all
theorem Aht {K:PySem.W.Frag}{h:Heap}{mg:Str->Option Value}(KX:K.In h) (GX:h.Ns mainGlobals mg) {a:Addr}{d:Option Addr}{n:Nat}{sl:Array (Option Value)}{t u:Tok}(h1:nsIn K mainGlobals "SPANS"=some (some (.ref a))) (h2:K.lookup a=some ⟨.type "tuple",d,.seq #[.int 3 t,.int 513 u] n,sl⟩) :
  ∃ a,mg "SPANS"=some (.ref a)/\∀ H,SqT K H a [.int 3,.int 513] :=
 ⟨a,mg_of KX GX h1,λ H=>.inr ⟨_,_,_,h2,rfl,rfl,by show 2<=2 ^ 24;decide,.cons ⟨t,rfl⟩ (.cons ⟨u,rfl⟩ .nil)⟩⟩
structure CalW (P:Program) (w:World) (K:PySem.W.Frag) (mg:Str->Option Value) (base:Heap) (k n:Nat):Prop where
 ex:∃ (f:Addr) (fd:FuncData),mg "ways_over"=some (.ref f)/\PySem.W.keepIn K (.ref f)=true/\Binds K fd ["bare","known"] []/\FnOk P w K mg base CX0 k f fd ["bare","known"] (spO n)
noncomputable def Aoo (n:Nat) (m:EV):EV:=λ E=>m E >>= λ d=>match d with
 | .int b=>if dpB n b=true then .ok (.int (WM b)) else .no
 | _=>.no
section
variable {X:Cx}{G:Fc}{e:Expr}{m:EV}{p pos dp:Pos}{j k n:Nat}
theorem Amk (C:CalW X.prog X.w X.K X.mg X.base k n) (hn:n<=20) (hr:Room j X.A) (hk:k<=j) (hg:Gl X "ways_over") (he:SF X G e m)
  (hs:starEach [e,.Dict [] [] dp] X.env=(false,eval e X.env) :: starEach [.Dict [] [] dp] X.env:=by rfl) (hs2:starEach [.Dict [] [] dp] X.env=(false,eval (.Dict [] [] dp) X.env) :: starEach [] X.env:=by rfl) (hpl:(backTo pos (starEach [.Dict [] [] dp] X.env)).any (·.1)=false:=by rfl) :
  SF X G (.Call (.Name "ways_over" p) [e,.Dict [] [] dp] [] pos) (Aoo n m):=by
 obtain⟨f,fd,hm,hkp,hb,F⟩:=C.ex
 refine (Di F (hr.mono hk) hg hm hkp hb .nil Ja (Ak he (Ak Te Bl hs2) hs) (by decide) hs hpl).imp ?_
 rintro σ H Q ⟨Ev,hrl,fn⟩
 refine⟨Ev,hrl,(Fin.bind fn).mono λ d q v H1 s1 rp q1 hq1=>?_⟩
 cases d with
 | int b =>
  have hv:=(show Rp X.K H1 (Ow G.pr Ev σ) (.int b) v from rp)
  unfold Rp at hv
  subst hv
  dsimp only at q
  split at q
  ·rename_i hd
   refine⟨b,q1,[],rfl,Aj,(λ _ h=>nomatch h),(Oz n b).1 hd,hn,?_,λ kvs' _ _=>?_⟩
   ·have:2 ^ n<=2 ^ 20:=Nat.pow_le_pow_right (by decide) hn
    simp only [List.length_nil]
    omega
   ·rw [Mp]
    exact q _ _ (s1.trans (Av hq1)) (by unfold Rp;rfl)
  ·exact q.elim
 | _=>exact q.elim
end
def Aqt:V->List V->Hp->VK->Prop:=λ x xs H Q=>∃ i:Int,x=.int i/\xs=[]/\Q (.int (Builtin.Int.intBits i)) H
theorem Ak6 {X:Cx}:MtR X "int.bit_length" Aqt:=by
 rintro pins s σ H x xs v us Q I rx rv ⟨i,rfl,rfl,q⟩
 obtain⟨t,rfl⟩:=rx
 cases rv.zero
 exact call_int_bit_length ⟨.int _,H,I.tok _,⟨_,rfl⟩,q⟩
theorem Akh:∀ {n m:Nat}{b:Int},Dp n b->n<=m->Dp m b
 | 0,0,_,h,_=>h
 | 0,_+1,_,h,_=>.inl h
 | n+1,0,_,_,l=>absurd l (by omega)
 | n+1,m+1,_,h,l=>h.imp id λ h w hw ho=>Akh (h w hw ho) (by omega)
noncomputable def fsq (b:Int):Int × Int:=(((Builtin.Int.intBits (Builtin.bitAnd b (-b)):Int)-1) / 9,((Builtin.Int.intBits (Builtin.bitAnd b (-b)):Int)-1) % 9)
noncomputable def Mr:Nat->Int->Int->Int->List D
 | 0,_,_,_=>[]
 | k+1,b,n,a=>if b=0 then [] else if n<a+Ly b 0 then .tup [.int (fsq b).1,.int (fsq b).2,.int 0] :: Mr k (b-Cp b 0) n a
  else .tup [.int (fsq b).1,.int (fsq b).2,.int 1] :: Mr k (b-Cp b 1) n (a+Ly b 0)
noncomputable def Ac6 (cf bo:List D->R D):List D->R D:=λ ds=>match ds with
 | [f,.int n]=>Qy cf [f] >>= λ _=>Qy bo [f] >>= λ d=>match d with
  | .int b=>if dpB 12 b=true then (if 0<=n/\n<WM b then .ok (.lst (Mr 12 b n 0)) else .er 4) else .no
  | _=>.no
 | _=>.no
theorem Lr {dn:List D->R D}{ds:List D}{p:D->Prop}{x:Nat->Prop}(h:Fin (Qy dn ds) p x):Fin (dn ds) p λ _=>False:=by
 unfold Qy at h
 cases e:dn ds with
 | ok a=>rw [e] at h;exact h
 | er c=>rw [e] at h;exact h.elim
 | no=>rw [e] at h;exact h.elim
noncomputable def spF:Sp:=λ vs H Q _=>∃ b,vs=[.int b]/\∀ p,H p=none->Q (.ref p) (upd H p (.tup [.int (fsq b).1,.int (fsq b).2]))
def rDm:List V->Hp->VK->Prop:=λ xs H Q=>∃ i j,xs=[.int i,.int j]/\Arl i j/\∀ p,H p=none->Q (.ref p) (upd H p (.tup [.int (i / j),.int (i % j)]))
noncomputable def Aov (K:PySem.W.Frag):TS:=Z6 (tCB rDm (Bw (tOp Acd (Ata K "int" Aqt (tOp Als (Dr 0) (tUn (rU λ i=>.int (-i)) (Dr 0)))) (tC (.int 1))) (Bw (tC (.int 9)) K7)))
theorem Xu {K:PySem.W.Frag}{H:Hp}{vs:List V}{Q:VK}{E:XK}(h:spF vs H Q E):Aov K { nx:=λ _ H'=>Q .non H',rt:=Q } (start ["bare"] vs) H:=by
 obtain⟨b,rfl,q⟩:=h
 exact⟨_,rfl,_,rfl,_,rfl,b,-b,rfl,rfl,rfl,_,rfl,rfl,_,_,rfl,rfl,_,_,rfl,⟨by decide,by decide⟩,q⟩
theorem Amj {vs:List V}{H:Hp}{Q:VK}{E:XK}(h:spF vs H Q E):vs.length=1:=by obtain⟨_,rfl,_⟩:=h;rfl
abbrev Avs:R2:=rI0 λ i j=>.bl (decide (i<j))
abbrev Axu:R2:=rI0 λ i j=>.bl (decide (i<=j))
noncomputable def Anw (K:PySem.W.Frag):TS:=Mw (R6 (Jj (spW 12) [] E0 (Bw (Dr 2) (Bw (tC (.int 0)) (Bw (Dr 3) K7)))) (Hg 6))
 (Mw (R6 (tIf (Rh (tOp Avs (Dr 1) (tOp Ahm (Dr 5) (Dr 6)))) (tC (.int 0)) (tC (.int 1))) (Hg 7))
 (Mw (Aic (Rh (tOp rEq (Dr 7) (tC (.int 1)))) (R6 (tOp Ahm (Dr 5) (Dr 6)) (Hg 5)) Ul)
 (Mw (Ad4 (tBM K "list" Tc (Dr 4) (Bw (tOp (Alc K) (Jj spF [] E0 (Bw (Dr 2) K7)) (At0 (Bw (Dr 7) K7))) K7)))
 (R6 (tOp Acd (Dr 2) (Jj spS [] E0 (Bw (Dr 2) (Bw (Dr 7) K7)))) (Hg 2)))))
noncomputable def Atl (K:PySem.W.Frag) (cf bo:List D->R D) (rz:Hp->Prop):TS :=
 Mw (Ad4 (Jj (spD K 1 cf) [] E0 (Bw (Dr 0) K7)))
 (Mw (R6 (Jj (spD K 1 bo) [] E0 (Bw (Dr 0) K7)) (Hg 2))
 (Mw (R6 Ae6 (Hg 3))
 (Mw (Aic (Aue (Rh (Aac Axu Avs (tC (.int 0)) (Dr 1) (Jj (spO 12) [] E0 (Bw (Dr 2) (Bw (Dr 3) K7)))))) (λ _ _ H=>rz H) Ul)
 (Mw (R6 (Ar3 K7) (Hg 4))
 (Mw (R6 (tC (.int 0)) (Hg 5))
 (Mw (Ajh (Rh (tOp rNe (Dr 2) (tC (.int 0)))) (Anw K))
 (Z6 (Dr 4))))))))
theorem Hx {H0 H:Hp}{a:Addr}{u:HO}(s:Same H0 H) (n:H0 a=none):Same H0 (upd H a u):=λ b o e=>by
 by_cases h:b=a
 ·subst h;rw [n] at e;cases e
 ·rw [Al h];exact s b o e
theorem Aat {H:Hp}{O:Addr->Prop}{a:Addr}{u:HO}(s:Sane H O) (n:O a->Kr u):Sane (upd H a u) O:=λ b hb=>by
 by_cases h:b=a
 ·subst h;exact⟨u,Aj,n hb⟩
 ·obtain⟨o,e,t⟩:=s b hb
  exact⟨o,by rw [Al h];exact e,t⟩
theorem Rps.snoc {K:PySem.W.Frag}{H:Hp}{O:Addr->Prop}{d:D}{v:V}(h:Rp K H O d v):∀ {ds:List D}{vs:List V},Rps K H O ds vs->Rps K H O (ds++[d]) (vs++[v])
 | [],_,r=>by unfold Rps at r;subst r;exact Rps.cons h Rps.nil
 | _ :: _,_,r=>by
  unfold Rps at r
  obtain⟨x,r',rfl,p,q⟩:=r
  exact Rps.cons p (Rps.snoc h q)
def TW (K:PySem.W.Frag) (H0:Hp) (O:Addr->Prop) (v0:V) (n:Int) (kd fl:Addr) (L:List D) (m:Nat) (σ:L2.St) (H:Hp):Prop :=
 ∃ (b a:Int) (s6 s7:Option V) (kvs:List (Key × V)) (vs:List V) (ds:List D),σ=[some v0,some (.int n),some (.int b),some (.ref kd),some (.ref fl),some (.int a),s6,s7]/\H kd=some (.dK kvs)/\H fl=some (.lst vs)/\Good kvs/\Dp m b/\m<=12/\a<=n/\n<a+WM b
 /\kvs.length+4096 * (m+1)<=262144/\vs.length+m<=12/\Rps K H O ds vs/\Same H0 H/\Sane H O/\ds++Mr m b n a=L
theorem Abl {K:PySem.W.Frag}{H0:Hp}{O:Addr->Prop}{v0:V}{n:Int}{kd fl:Addr}{L:List D}{m:Nat}{σ:L2.St}{H:Hp}{D:Ends}{b a:Int}{s6 s7:Option V}{kvs:List (Key × V)}{vs:List V}{ds:List M.D}
  (ok:O kd) (of:O fl) (nk:H0 kd=none) (nf:H0 fl=none) (hkf:kd≠fl) (hσ:σ=[some v0,some (.int n),some (.int b),some (.ref kd),some (.ref fl),some (.int a),s6,s7]) (hk:H kd=some (.dK kvs)) (hf:H fl=some (.lst vs)) (g:Good kvs) (hd:Dp (m+1) b) (hm:m+1<=12) (hb:b≠0) (ha:a<=n) (hn:n<a+WM b)
  (hl:kvs.length+4096 * (m+1+1)<=262144) (hv:vs.length+(m+1)<=12) (rs:Rps K H O ds vs) (sm:Same H0 H) (sn:Sane H O) (hL:ds++Mr (m+1) b n a=L) (hN:∀ σ' H',TW K H0 O v0 n kd fl L m σ' H'->D.nx σ' H'):Anw K D σ H:=by
 subst hσ
 have hd':∀ w:Int,(w=0\/w=1)->okI b w=true->Dp m (b-Cp b w):=by
  rcases hd with z|z
  ·exact absurd z hb
  ·exact z
 refine⟨_,rfl,_,rfl,b,0,kd,kvs,rfl,.inl rfl,hk,g,λ ho=>Akh (hd' 0 (.inl rfl) ho) (by omega),by decide,by omega,λ kvs' g' l'=>?_⟩
 have hst:WM b=Ly b 0+Ly b 1:=Aee hd (by omega) hb
 have hpos:∀ w,0<Ly b w->okI b w=true/\Ly b w=WM (b-Cp b w):=λ w h=>by
  unfold Ly at h ⊢
  by_cases ho:okI b w=true
  ·rw [if_pos ho];exact⟨ho,rfl⟩
  ·rw [if_neg ho] at h;omega
 have hf1:(upd H kd (.dK kvs')) fl=some (.lst vs):=by rw [Al (Ne.symm hkf)];exact hf
 have rs1:Rps K (upd H kd (.dK kvs')) O ds vs:=Rps.write ok rs
 have sm1:Same H0 (upd H kd (.dK kvs')):=Hx sm nk
 have sn1:Sane (upd H kd (.dK kvs')) O:=Aat sn λ _=>trivial
 have hk1:(upd H kd (.dK kvs')) kd=some (.dK kvs'):=Aj
 have p12:(2:Nat) ^ 12=4096:=by decide
 have l1:kvs'.length+4096 * (m+1)<=262144:=by omega
 revert hf1 rs1 sm1 sn1 hk1
 generalize upd H kd (.dK kvs')=H1
 intro hf1 rs1 sm1 sn1 hk1
 -- the rest,one way or the other
 have rest:∀ (w a':Int),(w=0\/w=1)->okI b w=true->a'<=n->n<a'+WM (b-Cp b w)->Mr (m+1) b n a=.tup [.int (fsq b).1,.int (fsq b).2,.int w] :: Mr m (b-Cp b w) n a' →
   (Mw (Ad4 (tBM K "list" Tc (Dr 4) (Bw (tOp (Alc K) (Jj spF [] E0 (Bw (Dr 2) K7)) (At0 (Bw (Dr 7) K7))) K7)))
    (R6 (tOp Acd (Dr 2) (Jj spS [] E0 (Bw (Dr 2) (Bw (Dr 7) K7)))) (Hg 2))) D [some v0,some (.int n),some (.int b),some (.ref kd),some (.ref fl),some (.int a'),some (.int (Ly b 0)),some (.int w)] H1:=by
  intro w a' hw ho ha' hn' ht
  refine⟨_,rfl,.inl ⟨rfl,vs,SqL.of hf1⟩,_,rfl,b,rfl,λ p1 e1=>⟨_,rfl,by show 1<=sizeLine;rw [sizeLine_eq];decide,λ p2 e2=>?_⟩⟩
  have n12:p1≠p2:=λ z=>by rw [<-z,Aj] at e2;cases e2
  refine⟨p1,p2,_,_,rfl,rfl,SqT.of (by rw [Al n12];exact Aj),SqT.of Aj,by simp,by show 3<=sizeLine;rw [sizeLine_eq];decide,λ z=>by simp at z,λ _ p3 e3=>?_⟩
  have s12:=(Av (o:=.tup [.int (fsq b).1,.int (fsq b).2]) e1).trans (Av (o:=.tup [.int w]) e2)
  have s13:=s12.trans (Av (o:=.tup [.int (fsq b).1,.int (fsq b).2,.int w]) e3)
  have f3:=s13 _ _ hf1
  have n3:p3≠fl:=λ z=>by rw [z,s12 _ _ hf1] at e3;cases e3
  have n3k:p3≠kd:=λ z=>by rw [z,s12 _ _ hk1] at e3;cases e3
  have sn3:Sane (upd (upd (upd H1 p1 (.tup [.int (fsq b).1,.int (fsq b).2])) p2 (.tup [.int w])) p3 (.tup [.int (fsq b).1,.int (fsq b).2,.int w])) O:=λ x hx=>by
   obtain⟨o,e,t⟩:=sn1 x hx
   exact⟨o,s13 _ _ e,t⟩
  have no3:¬ O p3:=sn3.tup Aj
  refine⟨fl,vs,.ref p3,rfl,rfl,f3,by rw [sizeLine_eq];omega,?_⟩
  refine⟨_,rfl,_,rfl,_,rfl,b,w,rfl,hw,b,Cp b w,rfl,rfl,hN _ _ ?_⟩
  refine⟨b-Cp b w,a',some (.int (Ly b 0)),some (.int w),kvs',vs++[.ref p3],ds++[.tup [.int (fsq b).1,.int (fsq b).2,.int w]],rfl,?_,Aj,g',hd' w hw ho,by omega,ha',hn',l1,?_,?_,?_,?_,?_⟩
  ·rw [Al hkf];exact s13 _ _ hk1
  ·rw [List.length_append,List.length_singleton];omega
  ·refine Rps.snoc ?_ (Rps.write of (Rps.mono s13 (λ _ z=>z) rs1))
   unfold Rp
   exact⟨p3,_,rfl,no3,by rw [Al n3];exact Aj,Rps.cons rfl (Rps.cons rfl (Rps.cons rfl Rps.nil))⟩
  ·exact Hx (sm1.trans s13) nf
  ·exact Aat sn3 λ _=>trivial
  ·rw [<-hL,ht];simp
 refine⟨_,rfl,_,rfl,_,rfl,a,Ly b 0,rfl,rfl,n,_,rfl,rfl,_,rfl,?_⟩
 by_cases hc:n<a+Ly b 0
 ·rw [show decide (n<a+Ly b 0)=true from decide_eq_true hc]
  refine Afq ?_
  refine⟨_,rfl,rfl,_,rfl,?_⟩
  refine Acr ?_
  obtain⟨ho,hw⟩:=hpos 0 (by omega)
  refine rest 0 a (.inl rfl) ho ha (by omega) ?_
  rw [Mr,if_neg hb,if_pos hc]
 ·rw [show decide (n<a+Ly b 0)=false from decide_eq_false hc]
  refine Acr ?_
  refine⟨_,rfl,rfl,_,rfl,?_⟩
  refine Afq ?_
  obtain⟨ho,hw⟩:=hpos 1 (by omega)
  refine⟨_,rfl,_,rfl,a,Ly b 0,rfl,rfl,?_⟩
  refine rest 1 (a+Ly b 0) (.inr rfl) ho (by omega) (by omega) ?_
  rw [Mr,if_neg hb,if_neg hc]
theorem Ab7 {K:PySem.W.Frag}{mg:Str->Option Value}{cf bo:List D->R D}{H:Hp}{vs:List V}{Q:VK}{E:XK}(h:spE K mg 2 (Ac6 cf bo) vs H Q E) :
  Atl K cf bo (λ H'=>Same H H'/\∀ e C H',mg (cname 4)=some (.ref C)->Same H H'->E e (some C) H') { nx:=λ _ H'=>Q .non H',rt:=Q } (start ["floor","number","bare","known","flags","ahead","across","way"] vs) H:=by
 obtain⟨hl,pr,ds,hp,rs,fn⟩:=h
 unfold Ac6 at fn
 split at fn
 ·rename_i f n
  unfold Rps at rs
  obtain⟨v0,r0,rfl,rp0,rs⟩:=rs
  unfold Rps at rs
  obtain⟨v1,r1,rfl,rp1,rs⟩:=rs
  unfold Rps at rs
  subst rs
  unfold Rp at rp1
  subst rp1
  refine⟨_,rfl,rfl,pr,[f],hp,Rps.cons rp0 Rps.nil,(Lr (Fin.bind fn)).mono λ d1 fn v H1 s1 _=>?_⟩
  have hp1:Sane H1 pr:=λ a z=>by obtain⟨o,e,t⟩:=hp a z;exact⟨o,s1 _ _ e,t⟩
  have rp1:Rp K H1 pr f v0:=Rp.mono s1 (λ _ z=>z) rp0
  refine⟨_,rfl,rfl,pr,[f],hp1,Rps.cons rp1 Rps.nil,(Lr (Fin.bind fn)).mono λ d fn v H2 s2 rpd=>?_⟩
  cases d with
  | int b =>
   have hv:=rpd
   unfold Rp at hv
   subst hv
   dsimp only at fn
   split at fn
   case isFalse=>exact fn.elim
   rename_i hd
   have hd:=(Oz 12 b).1 hd
   intro kd ek
   have sm2:Same H H2:=s1.trans s2
   have nk:H kd=none:=by
    cases q:H kd with
    | none=>rfl
    | some o=>rw [sm2 _ _ q] at ek;cases ek
   have sm3:Same H (upd H2 kd (.dK [])):=Hx sm2 nk
   have nok:¬ pr kd:=λ z=>by obtain⟨o,e,_⟩:=hp kd z;rw [nk] at e;cases e
   refine⟨_,rfl,0,n,rfl,rfl,_,rfl,?_⟩
   by_cases h0:0<=n
   ·rw [show decide ((0:Int)<=n)=true from decide_eq_true h0]
    refine Afq ?_
    refine⟨_,rfl,_,rfl,b,kd,[],rfl,Aj,(λ _ h=>nomatch h),hd,by decide,by decide,λ kvs' g' l'=>?_⟩
    rw [Mp]
    refine⟨n,WM b,rfl,rfl,_,rfl,?_⟩
    by_cases h1:n<WM b
    ·rw [if_pos ⟨h0,h1⟩] at fn
     rw [show decide (n<WM b)=true from decide_eq_true h1]
     refine Acr ?_
     refine⟨by show 0<=sizeLine;omega,λ fl ef=>?_⟩
     have hkf:kd≠fl:=λ z=>by rw [<-z,Aj] at ef;cases ef
     have sm4:Same H (upd H2 kd (.dK kvs')):=Hx sm2 nk
     have nf:H fl=none:=by
      cases q:H fl with
      | none=>rfl
      | some o=>rw [sm4 _ _ q] at ef;cases ef
     have nof:¬ pr fl:=λ z=>by obtain⟨o,e,_⟩:=hp fl z;rw [nf] at e;cases e
     have sn:Sane (upd (upd H2 kd (.dK kvs')) fl (.lst [])) (λ x=>pr x\/x=kd\/x=fl):=λ x hx=>by
      rcases hx with hx|rfl|rfl
      ·obtain⟨o,e,t⟩:=hp x hx
       exact⟨o,(Hx sm4 nf) _ _ e,t⟩
      ·exact⟨.dK kvs',by rw [Al hkf];exact Aj,trivial⟩
      ·exact⟨.lst [],Aj,trivial⟩
     refine⟨TW K H (λ x=>pr x\/x=kd\/x=fl) v0 n kd fl (Mr 12 b n 0),⟨12,b,0,none,none,kvs',[],[],rfl,by rw [Al hkf];exact Aj,Aj,g',hd,by omega,h0,by omega,?_,by decide,Rps.nil,Hx sm4 nf,sn,rfl⟩,?_⟩
     ·have:(2:Nat) ^ 12=4096:=by decide
      simp only [List.length_nil] at l'
      omega
     ·rintro m σ H3 ⟨b',a',s6,s7,kvs3,vs3,ds3,rfl,hk3,hf3,g3,hd3,hm3,ha3,hn3,hl3,hv3,rs3,sm3,sn3,hL3⟩
      refine⟨_,rfl,rfl,_,rfl,?_⟩
      by_cases hb:b'=0
      ·subst hb
       refine Acr ?_
       refine⟨_,rfl,fn _ _ sm3 ?_⟩
       have e0:Mr m 0 n a'=[]:=by cases m with
        | zero=>rfl
        | succ m=>rw [Mr,if_pos rfl]
       rw [e0,List.append_nil] at hL3
       subst hL3
       unfold Rp
       exact⟨fl,vs3,rfl,nof,hf3,Rps.mono (λ _ _ z=>z) (λ _ z=>.inl z) rs3⟩
      ·have e:(!decide (V.int b'=V.int 0))=true:=by simp [hb]
       rw [e]
       refine Afq ?_
       cases m with
       | zero=>exact absurd (show b'=0 from hd3) hb
       | succ m =>
        exact⟨TW K H (λ x=>pr x\/x=kd\/x=fl) v0 n kd fl (Mr 12 b n 0) m,λ σ' H' h=>⟨m,Nat.lt_succ_self m,h⟩,Abl (.inr (.inl rfl)) (.inr (.inr rfl)) nk nf hkf rfl hk3 hf3 g3 hd3 hm3 hb ha3 hn3 hl3 hv3 rs3 sm3 sn3 hL3 λ _ _ h=>h⟩
    ·rw [if_neg λ z=>h1 z.2] at fn
     rw [show decide (n<WM b)=false from decide_eq_false h1]
     exact Afq ⟨Hx sm2 nk,fn⟩
   ·rw [if_neg λ z=>h0 z.1] at fn
    rw [show decide ((0:Int)<=n)=false from decide_eq_false h0]
    refine Acr ?_
    exact⟨_,rfl,Afq ⟨sm3,fn⟩⟩
  | _=>exact fn.elim
 ·exact fn.elim
section
variable {X:Cx}
theorem PS.nox {st:Stmt}{t:TS}(h:PS X.nox st t):PS X st t:=λ pins s σ H D I hw =>
 wpAny_mono (h pins s σ H D (I.wish _) hw) (λ _ _ q=>q.unwish) λ _ _ z=>False.elim z
theorem Ah1 (c:Nat) {G:Fc}{x:Str}{msg:Str}{C:Addr}{newId initId B:String}{bmB:List Value}{np kp cpos pos:Pos}{j:Nat}(FB:ExcBaseFacts B newId initId bmB) (lk:Link X G) (hc:X.calm=true) (hx:cname c=x) (hg:Gl X x) (hm:X.mg x=some (.ref C)) (q:excIn X.K C bmB newId=true)
  (hdb:(x == ("__debug__":Str))=false:=by decide):PS X (.Raise (some (.Call (.Name x np) [.Constant (.str msg) j kp] [] cpos)) none pos) (λ _ _ H=>Same G.h0 H/\G.xc c):=by
 rintro pins s σ H D I ⟨hr,f⟩
 obtain⟨bm,N,nm,qn,bs,hdct,sn,sub,ab,col,dd,k0,k1,k2,k3,k5,mN,hC,hN,hni,T⟩:=Afw I.ok.mod.kin q
 refine wpAny_Raise_call_subT (nm:=nm) (q:=qn) (C:=C) (N:=N) (bs:=bs) (bm:=bm) (hdct:=hdct) (sn:=sn) (sub:=sub) (ab:=ab) (col:=col) (dd:=dd) (k0:=k0) (k1:=k1) (k2:=k2) (k3:=k3) (k5:=k5) FB (mN:=mN) (T.hasType FB.hasBase) (I.ok.hd hc) rfl hni (Mf I hg hm ⟨rfl,?_⟩ hdb)
 refine Calls.evalArgs_plain (wpAny_mono ((Ak Zr Bl) cpos pins s σ H (λ vs H'=>H'=H/\vs.length=1) I ⟨rfl,rfl⟩) ?_ λ _ _ z=>z)
 rintro us s2 ⟨vs,H1,I1,r,rfl,hl⟩
 refine⟨rfl,by show us.length<=sizeLine;rw [<-r.length,hl];decide,I1.bk _ _ hC,hN.keeps I1.bk,T.keeps I1.bk,λ h' e hmade=>lk.made I1 hr (by rw [hx];exact hm) f hmade⟩
end
end M
set_option maxHeartbeats 4000000
namespace HT
open PySem PyProof.Rows
section
open PySem.SeqAt
open PySem.AutoSeq1 (wpAny_loadPart')
open PySem.MeetsSeq PySem.MeetsSeq2 PySem.MeetsSeq3
noncomputable def Aq9 (n n2:Nat) (e lt:Nat->Bool):Nat->Nat->Bool
 | 0,_=>decide (n<n2)
 | k+1,i=>if i<n2 then (if e i=true then Aq9 n n2 e lt k (i+1) else lt i) else decide (n<n2)
end
section
variable {prog:Program}{w:World}{A:Around}{E:Value->Shared->Prop}{s:Shared}
end
end HT
namespace M
open PySem PySem.W PySem.Spec PyProof.Rows L2 PySem.Calls
noncomputable def Aqv:List (List Int)->List (List Int)->Bool
 | [],[]=>false
 | [],_ :: _=>true
 | _ :: _,[]=>false
 | x :: xs,y :: ys=>if x=y then Aqv xs ys else HT.lexLt x y
noncomputable def Alz:List D->Option (List (List Int))
 | []=>some []
 | .tup ds :: r=>(nums ds).bind λ a=>(Alz r).map (a :: ·)
 | _ :: _=>none
noncomputable def Azg (dx dy:D):Option D:=match dx,dy with
 | .lst as,.lst bs=>(Alz as).bind λ ns=>(Alz bs).map λ ms=>.bl (Aqv ns ms)
 | _,_=>none
end M
namespace M
open PySem PySem.W PySem.Spec PyProof.Rows L2 PySem.Calls
noncomputable def Am3:Int->Int->List D->Option D
 | _,a,[]=>some (.int a)
 | b,a,.tup [_,_,.int w] :: r=>if (w=0\/w=1)/\dpB 12 b=true then Am3 (b-Cp b w) (if w=1 then a+Ly b 0 else a) r else none
 | _,_,_ :: _=>none
theorem Adk {b a:Int}{g:D}{r:List D}{d:D}(h:Am3 b a (g :: r)=some d):∃ x y w,g=.tup [x,y,.int w]/\(w=0\/w=1)/\Dp 12 b/\Am3 (b-Cp b w) (if w=1 then a+Ly b 0 else a) r=some d:=by
 unfold Am3 at h
 split at h
 ·rename_i e;cases e
 ·rename_i x y w r' e
  cases e
  split at h
  ·rename_i hc
   exact⟨x,y,w,rfl,hc.1,(Oz 12 _).1 hc.2,h⟩
  ·cases h
 ·cases h
noncomputable def Aob (cl bo:List D->R D):List D->R D:=λ ds=>match ds with
 | [f,.lst gs]=>Qy cl [f,.lst gs] >>= λ _=>Qy bo [f] >>= λ d=>match d with
  | .int b=>if gs.length<=32 then ofO (Am3 b 0 gs) else .no
  | _=>.no
 | _=>.no
noncomputable def Asy (K:PySem.W.Frag):TS:=Mw (Aic (Rh (tOp rEq (tOp (Am4 K) (Dr 5) (tC (.int 2))) (tC (.int 1)))) (R6 (tOp Ahm (Dr 4) (Jj (spW 12) [] E0 (Bw (Dr 2) (Bw (tC (.int 0)) (Bw (Dr 3) K7))))) (Hg 4)) Ul)
 (R6 (tOp Acd (Dr 2) (Jj spS [] E0 (Bw (Dr 2) (Bw (tOp (Am4 K) (Dr 5) (tC (.int 2))) K7)))) (Hg 2))
noncomputable def Ay0 (K:PySem.W.Frag) (cl bo:List D->R D):TS :=
 Mw (Ad4 (Jj (spD K 2 cl) [] E0 (Bw (Dr 0) (Bw (Dr 1) K7))))
 (Mw (R6 (Jj (spD K 1 bo) [] E0 (Bw (Dr 0) K7)) (Hg 2))
 (Mw (R6 Ae6 (Hg 3))
 (Mw (R6 (tC (.int 0)) (Hg 4))
 (Mw (Asa (Aoh K (Dr 1)) (Hg 5) (Asy K))
 (Z6 (Dr 4))))))
def NW (H0:Hp) (v0 v1:V) (kd:Addr) (gs:List D) (d:D) (i:Nat) (σ:L2.St) (H:Hp):Prop :=
 ∃ (b a:Int) (s5:Option V) (kvs:List (Key × V)),σ=[some v0,some v1,some (.int b),some (.ref kd),some (.int a),s5]/\H kd=some (.dK kvs)/\Good kvs/\kvs.length+4096 * (33-i)<=262144/\Same H0 H/\Am3 b a (gs.drop i)=some d
theorem num_reads {K:PySem.W.Frag}{cl bo:List D->R D}{H:Hp}{vs:List V}{Q:VK}{E:XK}(h:spD K 2 (Aob cl bo) vs H Q E) :
  Ay0 K cl bo { nx:=λ _ H'=>Q .non H',rt:=Q } (start ["floor","flags","bare","known","ahead","flag"] vs) H:=by
 obtain⟨hl,pr,ds,hp,rs,fn⟩:=h
 unfold Aob at fn
 split at fn
 ·rename_i f gs
  unfold Rps at rs
  obtain⟨v0,r0,rfl,rp0,rs⟩:=rs
  unfold Rps at rs
  obtain⟨v1,r1,rfl,rp1,rs⟩:=rs
  unfold Rps at rs
  subst rs
  refine⟨_,rfl,_,rfl,rfl,pr,[f,.lst gs],hp,Rps.cons rp0 (Rps.cons rp1 Rps.nil),(Lr (Fin.bind fn)).mono λ d1 fn v H1 s1 _=>?_⟩
  have hp1:Sane H1 pr:=λ a z=>by obtain⟨o,e,t⟩:=hp a z;exact⟨o,s1 _ _ e,t⟩
  refine⟨_,rfl,rfl,pr,[f],hp1,Rps.cons (Rp.mono s1 (λ _ z=>z) rp0) Rps.nil,(Lr (Fin.bind fn)).mono λ d fn v H2 s2 rpd=>?_⟩
  cases d with
  | int b =>
   have hv:=rpd
   unfold Rp at hv
   subst hv
   dsimp only at fn
   split at fn
   case isFalse=>exact fn.elim
   rename_i hg
   obtain⟨d,hd,fn⟩:=Fin.of fn
   intro kd ek
   have sm2:Same H H2:=s1.trans s2
   have nk:H kd=none:=by
    cases q:H kd with
    | none=>rfl
    | some o=>rw [sm2 _ _ q] at ek;cases ek
   unfold Rp at rp1
   obtain⟨fa,vs,rfl,_,hfa,rsg⟩:=rp1
   have lv:vs.length=gs.length:=rsg.length
   refine⟨_,rfl,fa,rfl,⟨vs,SqL.of ((Hx sm2 nk) _ _ hfa)⟩,?_⟩
   refine Ah2 (xs:=vs) (NW H v0 (.ref fa) kd gs d) ⟨b,0,none,[],rfl,Aj,(λ _ h=>nomatch h),by decide,Hx sm2 nk,hd⟩ (λ i σ H3 _ ⟨_,_,_,_,_,_,_,_,sm,_⟩=>SqL.of (sm _ _ hfa)) ?_ ?_
   ·rintro i x σ H3 hx ⟨b',a,s5,kvs,rfl,hk,g,hl,sm,hn⟩
    have hi:i<vs.length:=(List.getElem?_eq_some_iff.mp hx).1
    rw [List.drop_eq_getElem_cons (by omega:i<gs.length)] at hn
    obtain⟨x',y',w,eg,hw,hdp,hn⟩:=Adk hn
    obtain⟨v,ev,rv⟩:=rsg.get (i:=i) (d:=gs[i]'(by omega)) (by simp)
    rw [hx] at ev
    cases ev
    rw [eg] at rv
    unfold Rp at rv
    obtain⟨ta,ws,rfl,_,hta,rw3⟩:=rv
    unfold Rps at rw3
    obtain⟨w1,q1,rfl,_,rw3⟩:=rw3
    unfold Rps at rw3
    obtain⟨w2,q2,rfl,_,rw3⟩:=rw3
    unfold Rps at rw3
    obtain⟨w3,q3,rfl,rp3,rw3⟩:=rw3
    unfold Rps at rw3
    subst rw3
    unfold Rp at rp3
    subst rp3
    have hat:atI [w1,w2,V.int w] 2=some (.int w):=rfl
    have hd2:okI b' 0=true->Dp 12 (b'-Cp b' 0):=λ ho=>by
     rcases hdp with z|z
     ·subst z
      have:Cp 0 0=0:=rfl
      rw [this];exact .inl rfl
     ·exact Akh (z 0 (.inl rfl) ho) (by decide)
    have rest:∀ (a':Int) (kvs':List (Key × V)) (H4:Hp),a'=(if w=1 then a+Ly b' 0 else a)->H4 kd=some (.dK kvs')->Good kvs'->kvs'.length+4096 * (33-(i+1))<=262144->Same H H4 →
      (R6 (tOp Acd (Dr 2) (Jj spS [] E0 (Bw (Dr 2) (Bw (tOp (Am4 K) (Dr 5) (tC (.int 2))) K7)))) (Hg 2))
       { nx:=NW H v0 (.ref fa) kd gs d (i+1),rt:=Q,bk:=Z6 (Dr 4) { nx:=λ _ H'=>Q .non H',rt:=Q },ct:=NW H v0 (.ref fa) kd gs d (i+1) } [some v0,some (.ref fa),some (.int b'),some (.ref kd),some (.int a'),some (.ref ta)] H4:=by
     intro a' kvs' H4 ea hk4 g4 hl4 sm4
     refine⟨_,rfl,_,rfl,_,rfl,ta,_,2,_,rfl,rfl,SqT.of (sm4 _ _ hta),hat,b',w,rfl,hw,b',Cp b' w,rfl,rfl,?_⟩
     refine⟨b'-Cp b' w,a',some (.ref ta),kvs',rfl,hk4,g4,hl4,sm4,?_⟩
     rw [ea];exact hn
    refine⟨_,rfl,ta,_,2,_,rfl,rfl,SqT.of (sm _ _ hta),hat,rfl,_,rfl,?_⟩
    by_cases h1:w=1
    ·subst h1
     refine Afq ?_
     have p12:(2:Nat) ^ 12=4096:=by decide
     refine⟨_,rfl,_,rfl,_,rfl,b',0,kd,kvs,rfl,.inl rfl,hk,g,hd2,by decide,by omega,λ kvs' g' l'=>?_⟩
     refine⟨a,Ly b' 0,rfl,rfl,?_⟩
     exact rest _ kvs' _ (by rw [if_pos rfl]) Aj g' (by omega) (Hx sm nk)
    ·have e:decide (V.int w=V.int 1)=false:=by simp [h1]
     rw [e]
     refine Acr ?_
     exact rest a kvs H3 (by rw [if_neg h1]) hk g (by omega) sm
   ·rintro σ H3 ⟨b',a,s5,kvs,rfl,hk,g,hl,sm,hn⟩
    have e0:gs.drop vs.length=[]:=List.drop_eq_nil_of_le (by omega)
    rw [e0] at hn
    cases hn
    exact⟨_,rfl,fn _ _ sm (by unfold Rp;rfl)⟩
  | _=>exact fn.elim
 ·exact fn.elim
end M
namespace M
open PySem PySem.Spec PyProof.Rows L2
def Ai5 (i:Nat) (a b:Addr) (σ:St):Prop:=Pin i a σ/\Pin (i+1) b σ
abbrev or2 (pr:Addr->Prop) (a b:Addr):Addr->Prop:=orA (orA pr a) b
abbrev off2 (H:Hp) (a b:Addr):Hp:=offA (offA H a) b
noncomputable def Auk (K:PySem.W.Frag) (G:Fc) (i:Nat) (a b:Addr) (Dn:Ends):Out->Prop
 | .nx E=>∀ σ H,Ai5 i a b σ->Rel K G E σ H->Dn.nx σ H
 | .bk E=>∀ σ H,Ai5 i a b σ->Rel K G E σ H->Dn.bk σ H
 | .ct E=>∀ σ H,Ai5 i a b σ->Rel K G E σ H->Dn.ct σ H
 | .rt d=>∀ x c c' v H,d=.tup [x,.dic c,.dic c']->Same G.h0 H->Rp K H (or2 G.pr a b) x v->Own K H (or2 G.pr a b) (.dic c) a->Own K H (or2 G.pr a b) (.dic c') b->Dn.rt v H
noncomputable def RdQ (X:Cx) (G:Fc) (i:Nat) (a b:Addr) (m:EX):TS:=λ Dn σ H=>Ai5 i a b σ/\∃ E,Rel X.K G E σ H/\Fin (m E) (Auk X.K G i a b Dn) G.xc
def SSQ (X:Cx) (G:Fc) (i:Nat) (a b:Addr) (st:Stmt) (m:EX):Prop:=PS X st (RdQ X G i a b m)
def SBQ (X:Cx) (G:Fc) (i:Nat) (a b:Addr) (st:List Stmt) (m:EX):Prop:=PSs X st (RdQ X G i a b m)
noncomputable def Ain (i:Nat) (m:EV):EX:=λ E=>match E[i]?,E[i+1]? with
 | some (.ow (.dic c)),some (.ow (.dic c'))=>m E >>= λ d=>.ok (.rt (.tup [d,.dic c,.dic c']))
 | _,_=>.no
def STc (X:Cx) (G:Fc) (e:Expr) (m:Ev->R (Bool × Ev)):Prop :=
 PT X e λ σ H Q=>∃ E,Rel X.K G E σ H/\Fin (m E) (λ p=>∀ H',Rel X.K G p.2 σ H'->Q p.1 H') G.xc
noncomputable def Ary (m:Ev->R (Bool × Ev)) (ta tb:EX):EX:=λ E=>m E >>= λ p=>if p.1=true then ta p.2 else tb p.2
noncomputable def Aux (m:Ev->R (Bool × Ev)):Ev->R (Bool × Ev):=λ E=>m E >>= λ p=>.ok (!p.1,p.2)
noncomputable def cOr (t:Ev->R Bool) (m:Ev->R (Bool × Ev)):Ev->R (Bool × Ev):=λ E=>t E >>= λ k=>if k=true then .ok (true,E) else m E
section
variable {X:Cx}{G:Fc}{i:Nat}{a b:Addr}{st:Stmt}{rest:List Stmt}{m n:EX}{e:Expr}{me:EV}{pos:Pos}
theorem Ad5:SBQ X G i a b [] Eu:=Gv.imp λ D σ H h=>by
 obtain⟨pn,E,hr,f⟩:=h
 exact f σ H pn hr
theorem Sw (h1:SSQ X G i a b st m):SBQ X G i a b [st] m:=Ca h1
theorem Sy (h1:SSQ X G i a b st m) (h2:SBQ X G i a b rest n):SBQ X G i a b (st :: rest) (Bc m n):=(Bg h1 h2).imp λ D σ H h=>by
 obtain⟨pn,E,hr,f⟩:=h
 refine⟨pn,E,hr,(Fin.bind f).mono λ o p=>?_⟩
 cases o with
 | nx E'=>exact λ σ' H' p' r'=>⟨p',E',r',p⟩
 | bk E'=>exact p
 | ct E'=>exact p
 | rt d=>exact p
theorem Apz {c:Expr}{ta tb:List Stmt}{tc:Ev->R Bool}{ma mb:EX}(hc:ST X G c tc) (ha:SBQ X G i a b ta ma) (hb:SBQ X G i a b tb mb):SSQ X G i a b (.If c ta tb pos) (xIf tc ma mb):=(Lb hc ha hb).imp λ D σ H h=>by
 obtain⟨pn,E,hr,f⟩:=h
 refine⟨E,hr,(Fin.bind f).mono λ k p H' s=>?_⟩
 cases k with
 | true=>exact⟨pn,E,hr.same s,p⟩
 | false=>exact⟨pn,E,hr.same s,p⟩
theorem Ak4 {c:Expr}{ta tb:List Stmt}{tc:Ev->R (Bool × Ev)}{ma mb:EX}(hc:STc X G c tc) (ha:SBQ X G i a b ta ma) (hb:SBQ X G i a b tb mb):SSQ X G i a b (.If c ta tb pos) (Ary tc ma mb):=(Lb hc ha hb).imp λ D σ H h=>by
 obtain⟨pn,E,hr,f⟩:=h
 refine⟨E,hr,(Fin.bind f).mono λ p q H' r=>?_⟩
 obtain⟨k,E'⟩:=p
 cases k with
 | true=>exact⟨pn,E',r,q⟩
 | false=>exact⟨pn,E',r,q⟩
theorem Anz {c:Expr}{ta tb:List Stmt}{tc:Ev->R (Bool × Ev)}{ma mb:EX}(hc:STc X G c tc) (ha:SB X G ta ma) (hb:SB X G tb mb):SS X G (.If c ta tb pos) (Ary tc ma mb):=(Lb hc ha hb).imp λ D σ H h=>by
 obtain⟨E,hr,f⟩:=h
 refine⟨E,hr,(Fin.bind f).mono λ p q H' r=>?_⟩
 obtain⟨k,E'⟩:=p
 cases k with
 | true=>exact⟨E',r,q⟩
 | false=>exact⟨E',r,q⟩
theorem Alb {c:Expr}{tc:Ev->R (Bool × Ev)}(hc:STc X G c tc):STc X G (.UnaryOp .Not c pos) (Aux tc):=(Aao hc).imp λ σ H Q ⟨E,hr,f⟩=>⟨E,hr,(Fin.bind f).mono λ p q H' r=>q H' r⟩
theorem An2 {c d:Expr}{tc:Ev->R Bool}{td:Ev->R (Bool × Ev)}(hc:ST X G c tc) (hd:STc X G d td):STc X G (.BoolOp .Or [c,d] pos) (cOr tc td):=(PW.pt (Amb hc (Ae8 hd))).imp λ σ H Q ⟨E,hr,f⟩=>⟨E,hr,(Fin.bind f).mono λ k p H' s'=>by
 cases k with
 | false=>exact⟨E,hr.same s',p⟩
 | true=>exact p H' (hr.same s')⟩
theorem Aag (j:Nat) {x:Str}{k v:Expr}{mk mv:EV}{p pos':Pos}(hu:X.A.units+1<cLine) (hk:SE X G k mk) (hv:SF X G v mv) (hN:X.N[j]?=some x:=by rfl) (hvs:Vis X.env.scope x:=by first|exact Or.inl rfl|exact Or.inr (Or.inl rfl)|exact Or.inr (Or.inr rfl)) (hd:(x == ("__debug__":Str))=false:=by decide) (hcd:(x == ("__classdict__":Str))=false:=by decide)
  (hs:swapsWith v (some (.Subscript (.Name x p) k pos')) pos.line X.env=pure false:=by rfl):SSQ X G i a b (.Assign [.Subscript (.Name x p) k pos'] v pos) (Qe j mk mv) :=
 (Uu hu (Kl hN hvs hd hcd) hk hv hs).imp λ D σ H h=>by
  obtain⟨pn,E,hr,f⟩:=h
  unfold Qe at f
  split at f
  ·rename_i kvs hi
   obtain⟨a,vs,e1,e2,e3,e4⟩:=Wb hr hi
   refine⟨E,hr,(Fin.bind f).mono λ d f v H1 s1 z1=>⟨_,e1,⟨E,hr.same s1,(Fin.bind f).mono λ k f w H2 s2 z2=>?_⟩⟩⟩
   cases ek:keyOf k with
   | none=>rw [ek] at f;exact f.elim
   | some ks =>
    rw [ek] at f
    dsimp only at f
    split at f
    ·rename_i hl
     obtain⟨b,rfl,hb⟩:=Iv ek z2
     have s:=s1.trans s2
     have e2':=s _ _ e2
     refine⟨a,_,rfl,Air.t e2' hb (by rw [e3.length,sizeLine_eq];omega),f _ _ pn ((hr.same s).write hi e1 ⟨_,Aj,?_⟩)⟩
     exact Rpk.write e4 (Rpk.put (e3.mono s λ _ z=>z) (z1.mono s2 λ _ z=>z))
    ·exact f.elim
  ·exact f.elim
theorem Mh {K:PySem.W.Frag}{E:Ev}{σ:St}{H:Hp}{j:Nat}{a:Addr}{d:D}(r:Rel K G E σ H) (hj:E[j]?=some (.ow d)) (pn:Pin j a σ):Own K H (Ow G.pr E σ) d a/\G.h0 a=none/\Ow G.pr E σ a:=by
 obtain⟨a0,e1,e2,e3⟩:=r.ow j _ hj
 have ea:a0=a:=by unfold Pin at pn;rw [e1] at pn;cases pn;rfl
 subst ea
 exact⟨e2,e3,.inr ⟨j,d,hj,e1⟩⟩
theorem Adi (he:SF X G e me):SSQ X G i a b (.Return (some e) pos) (Ain i me):=(G4 he).imp λ D σ H h=>by
 obtain⟨pn,E,hr,f⟩:=h
 unfold Ain at f
 split at f
 ·rename_i c c' hi hi'
  refine⟨E,hr,(Fin.bind f).mono λ d p v H' s z=>?_⟩
  obtain⟨o1,_,w1⟩:=Mh (hr.same s) hi pn.1
  obtain⟨o2,_,w2⟩:=Mh (hr.same s) hi' pn.2
  have sub:∀ x,or2 G.pr a b x->Ow G.pr E σ x:=λ x hx=>by
   rcases hx with (hx|hx)|hx
   ·exact .inl hx
   ·rw [hx];exact w1
   ·rw [hx];exact w2
  exact p _ _ _ v H' rfl (hr.base.trans s) (z.mono (Same.refl _) sub) (o1.mono (Same.refl _) sub) (o2.mono (Same.refl _) sub)
 ·exact f.elim
end
section
variable {X:Cx}{G:Fc}{i:Nat}{a b:Addr}{iter tg:Expr}{body:List Stmt}{pos:Pos}{ts:List Nat}{set:D->Ev->Option Ev}{mi:Ev->R (List D)}{mb:EX}
theorem Ame (gd:Gd X) (hi:SI X G tg iter mi) (hg:SG X tg ts set) (hb:∀ G',G'.xc=G.xc->SBQ X G' i a b body mb) (hts:i∉ts/\i+1∉ts:=by decide) (hs:∀ x,foldedSetIterable iter X.env x=pure x:=by intro _;rfl):SSQ X G i a b (.For tg iter body [] pos) (U7 mi set mb):=by
 obtain⟨g,hg,hset⟩:=hg
 rintro pins s σ0 H0 Dn I ⟨pn0,E0,hr0,f0⟩
 have key:PS X (.For tg iter body [] pos) (Asa (λ σ H Rr=>∃ E,Rel X.K G E σ H/\Fin (mi E) (λ ds=>∀ J H1,Same H H1->Ana X.K (G.lock E σ H1) J ds->Rr J H1) G.xc) g
   (λ Dn σ H=>∃ G',G'.xc=G.xc/\RdQ X G' i a b mb Dn σ H)) :=
  Adz gd.po gd.calm hi hg (by
   rintro pins s σ H D I ⟨G',e,h⟩
   exact hb G' e pins s σ H D I h) hs
 refine key pins s σ0 H0 Dn I ⟨E0,hr0,(Fin.bind f0).mono λ ds f J H1 s1 it=>?_⟩
 have hr1:=hr0.same s1
 have hsub:=hr1.sub
 have wk:∀ {E:Ev} {σ:St} {H:Hp},Rel X.K (G.lock E0 σ0 H1) E σ H->Rel X.K G E σ H:=λ r=>r.weak hsub rfl hr0.prt
 refine⟨λ k m σ H=>Ai5 i a b σ/\∃ E,Rel X.K (G.lock E0 σ0 H1) E σ H/\k<=ds.length/\m=ds.length-k/\Fin (forL set mb (ds.drop k) E) (Auk X.K G i a b Dn) G.xc,⟨ds.length,pn0,E0,hr1.lock,Nat.zero_le _,by simp,by simpa using f⟩,?_⟩
 rintro k m σ H ⟨pn,E,r,hi',rfl,f⟩
 obtain⟨h1,h2⟩:=it _ E σ H (Fc.Le.refl _) r
 by_cases hlt:k<ds.length
 ·obtain⟨go,yl⟩:=h2 k ds[k] (by simp [hlt])
  rw [List.drop_eq_getElem_cons hlt] at f
  unfold forL at f
  cases hse:set ds[k] E with
  | none=>rw [hse] at f;exact f.elim
  | some E1 =>
   rw [hse] at f
   refine .inr ⟨go,λ σ' H'=>Ai5 i a b σ'/\∃ E2,Rel X.K (G.lock E0 σ0 H1) E2 σ' H'/\Fin (forL set mb (ds.drop (k+1)) E2) (Auk X.K G i a b Dn) G.xc,λ σ' H' h=>?_,λ x H' y=>?_⟩
   ·obtain⟨p2,E2,r2,f2⟩:=h
    exact⟨ds.length-(k+1),by omega,p2,E2,r2,hlt,rfl,f2⟩
   ·obtain⟨s2,px⟩:=yl x H' y
    refine hset _ E E1 σ H' ds[k] x _ (r.same s2) px hse λ σ' hσ' r'=>⟨G.lock E0 σ0 H1,rfl,?_,E1,r',(Fin.bind f).mono λ o p=>?_⟩
    ·unfold Ai5 Pin;rw [hσ' i hts.1,hσ' (i+1) hts.2];exact pn
    ·cases o with
     | nx E2=>exact λ σ2 H2 p2 r2=>⟨p2,E2,r2,p⟩
     | ct E2=>exact λ σ2 H2 p2 r2=>⟨p2,E2,r2,p⟩
     | bk E2=>exact λ σ2 H2 p2 r2=>p σ2 H2 p2 (wk r2)
     | rt d=>exact λ x c c' v H2 e s2 z1 z2 z3=>p x c c' v H2 e (hsub.trans s2) z1 z2 z3
 ·have e:k=ds.length:=by omega
  subst e
  rw [List.drop_length] at f
  exact .inl ⟨h1,f σ H pn (wk r)⟩
end
noncomputable def spQ (K:PySem.W.Frag) (n:Nat) (dn:List D->Kvs->Kvs->R (D × Kvs × Kvs)):Sp:=λ vs H Q _=>vs.length=n/\∃ (pr:Addr->Prop) (ds:List D) (us:List V) (a b:Addr) (c c':Kvs),vs=us++[.ref a,.ref b]/\ds.length+2=n/\¬ pr a/\¬ pr b/\a≠b/\(∀ x,pr x->∃ o,H x=some o/\Kr o) ∧
 Rps K H (or2 pr a b) ds us/\Own K H (or2 pr a b) (.dic c) a/\Own K H (or2 pr a b) (.dic c') b/\Fin (dn ds c c') (λ p=>∀ v H',Same (off2 H a b) H'->Rp K H' (or2 pr a b) p.1 v->Own K H' (or2 pr a b) (.dic p.2.1) a->Own K H' (or2 pr a b) (.dic p.2.2) b->Q v H') λ _=>False
noncomputable def Lh (n:Nat) (ds:List D) (c c':Kvs):Ev:=ds.map Sl.fz++.ow (.dic c) :: .ow (.dic c') :: List.replicate (n-(ds.length+2)) .un
noncomputable def Anc (r:R Out):R (D × Kvs × Kvs):=r >>= λ o=>match o with
 | .rt (.tup [d,.dic c,.dic c'])=>.ok (d,c,c')
 | _=>.no
noncomputable def Ato (n:Nat) (m:EX):List D->Kvs->Kvs->R (D × Kvs × Kvs):=λ ds c c'=>Anc (m (Lh n ds c c'))
theorem Abe {K:PySem.W.Frag}{H:Hp}{pr:Addr->Prop}{xc:Nat->Prop}{N:List Str}{ds:List D}{us:List V}{a b:Addr}{c c':Kvs}(na:¬ pr a) (nb:¬ pr b) (nab:a≠b) (hp:∀ x,pr x->∃ o,H x=some o/\Kr o) (rs:Rps K H (or2 pr a b) ds us) (ow:Own K H (or2 pr a b) (.dic c) a) (ow':Own K H (or2 pr a b) (.dic c') b) :
  Rel K ⟨off2 H a b,pr,xc⟩ (Lh N.length ds c c') (L2.start N (us++[.ref a,.ref b])) H/\Ai5 ds.length a b (L2.start N (us++[.ref a,.ref b])):=by
 have ul:=rs.length
 have pin:Pin ds.length a (L2.start N (us++[.ref a,.ref b])):=by
  unfold Pin L2.start
  rw [List.map_append,List.append_assoc,List.getElem?_append_right (by simp [ul]),List.length_map,ul]
  simp
 have pin':Pin (ds.length+1) b (L2.start N (us++[.ref a,.ref b])):=by
  unfold Pin L2.start
  rw [List.map_append,List.append_assoc,List.getElem?_append_right (by simp [ul]),List.length_map,ul]
  simp
 have own_at:∀ (i:Nat) d,(Lh N.length ds c c')[i]?=some (.ow d)->(i=ds.length/\d=.dic c)\/(i=ds.length+1/\d=.dic c'):=λ i d h=>by
  unfold Lh at h
  rcases Nat.lt_or_ge i ds.length with hi|hi
  ·rw [List.getElem?_append_left (by simpa using hi),List.getElem?_map] at h
   cases q:ds[i]? with
   | none=>rw [q] at h;cases h
   | some x=>rw [q] at h;cases h
  ·rw [List.getElem?_append_right (by simpa using hi),List.length_map] at h
   match k:i-ds.length with
   | 0=>rw [k] at h;simp at h;exact .inl ⟨by omega,h.symm⟩
   | 1=>rw [k] at h;simp at h;exact .inr ⟨by omega,h.symm⟩
   | n+2 =>
    rw [k,List.getElem?_cons_succ,List.getElem?_cons_succ,List.getElem?_replicate] at h
    split at h<;>cases h
 have sub:∀ x,Ow pr (Lh N.length ds c c') (L2.start N (us++[.ref a,.ref b])) x->or2 pr a b x:=λ x h=>by
  rcases h with h|⟨i,d,h1,h2⟩
  ·exact .inl (.inl h)
  ·rcases own_at i d h1 with ⟨rfl,_⟩|⟨rfl,_⟩
   ·have:=pin
    unfold Pin at this
    rw [h2] at this;cases this;exact .inl (.inr rfl)
   ·have:=pin'
    unfold Pin at this
    rw [h2] at this;cases this;exact .inr rfl
 have offb:off2 H a b b=none:=Uo
 have offa:off2 H a b a=none:=by show offA (offA H a) b a=none;rw [G7 nab,Uo]
 refine⟨⟨?_,λ i d h=>?_,λ i d h=>?_,λ i j d e x h1 h2 h3 h4=>?_,λ x o h=>Wa _ _ _ _ (Wa _ _ _ _ h),λ x hx=>?_⟩,pin,pin'⟩
 ·unfold Lh L2.start
  simp [ul]
 ·have hlt:i<ds.length:=by
   rcases Nat.lt_or_ge i ds.length with hi|hi
   ·exact hi
   ·unfold Lh at h
    rw [List.getElem?_append_right (by simpa using hi),List.length_map] at h
    match k:i-ds.length with
    | 0=>rw [k] at h;simp at h
    | 1=>rw [k] at h;simp at h
    | n+2 =>
     rw [k,List.getElem?_cons_succ,List.getElem?_cons_succ,List.getElem?_replicate] at h
     split at h<;>cases h
  unfold Lh at h
  rw [List.getElem?_append_left (by simpa using hlt),List.getElem?_map] at h
  cases q:ds[i]? with
  | none=>rw [q] at h;cases h
  | some x =>
   rw [q] at h
   cases h
   obtain⟨v,e1,e2⟩:=rs.get q
   refine⟨v,?_,e2.mono (Same.refl _) sub⟩
   unfold L2.start
   rw [List.map_append,List.append_assoc,List.getElem?_append_left (by simp [ul];exact hlt),List.getElem?_map,e1]
   rfl
 ·rcases own_at i d h with ⟨rfl,rfl⟩|⟨rfl,rfl⟩
  ·exact⟨a,pin,ow.mono (Same.refl _) sub,offa⟩
  ·exact⟨b,pin',ow'.mono (Same.refl _) sub,offb⟩
 ·have pa:=pin
  have pb:=pin'
  unfold Pin at pa pb
  rcases own_at i d h1 with ⟨rfl,_⟩|⟨rfl,_⟩<;>rcases own_at j e h2 with ⟨rfl,_⟩|⟨rfl,_⟩
  ·rfl
  ·rw [pa] at h3;rw [pb] at h4;cases h3;cases h4;exact absurd rfl nab
  ·rw [pb] at h3;rw [pa] at h4;cases h3;cases h4;exact absurd rfl nab
  ·rfl
 ·obtain⟨o,e,n⟩:=hp x hx
  have h1:x≠a:=λ q=>by subst q;exact na hx
  have h2:x≠b:=λ q=>by subst q;exact nb hx
  exact⟨o,by show offA (offA H a) b x=_;rw [G7 h2,G7 h1];exact e,n⟩
structure CalQ (P:Program) (w:World) (K:PySem.W.Frag) (mg:Str->Option Value) (base:Heap) (x:Str) (ps:List Str) (k:Nat) (dn:List D->Kvs->Kvs->R (D × Kvs × Kvs)):Prop where
 ex:∃ (f:Addr) (fd:FuncData),mg x=some (.ref f)/\PySem.W.keepIn K (.ref f)=true/\Binds K fd ps []/\FnOk P w K mg base CX0 k f fd ps (spQ K ps.length dn)
section
variable {P:Program}{w:World}{K:PySem.W.Frag}{mg:Str->Option Value}{base:Heap}{x qual:Str}{st:Stmt}{f:Addr}{fd:FuncData}{N ps:List Str}{k i:Nat}{m:EX}
theorem Aod (F:Fun K x qual st f fd) (S:FnScope N ps (Ah st)) (hi:i+2=ps.length)
  (hb:∀ (cdv:Value) (A:Around) (outer:List Env) (s:Shared) (H:Hp) (E:XK),Room k (bx P w K mg base N qual (Ah st) f cdv A outer s H E).A->Gd (bx P w K mg base N qual (Ah st) f cdv A outer s H E)->∀ (G:Fc) (a b:Addr),(∀ c,¬ G.xc c)->SBQ (bx P w K mg base N qual (Ah st) f cdv A outer s H E) G i a b (Gb st) m) :
  FnOk P w K mg base CX0 (k+1) f fd ps (spQ K ps.length (Ato N.length m)) :=
 F.ok S (λ vs H Q E h=>h.1) (by
  rintro cdv A outer s H vs Q E hr ⟨hl,pr,ds,us,a,b,c,c',rfl,dl,na,nb,nab,hp,rs,ow,ow',f⟩
  have gd:Gd (bx P w K mg base N qual (Ah st) _ cdv A outer s H E):=⟨rfl,PassesOwn.never,S.nd,by have:=hr.units;exact Nat.lt_of_le_of_lt (Nat.add_le_add_left (by decide) _) this⟩
  obtain⟨r,pin⟩:=Abe (xc:=λ _=>False) (N:=N) na nb nab hp rs ow ow'
  have hid:ds.length=i:=by omega
  rw [hid] at pin
  refine⟨_,hb cdv A outer s H E hr gd ⟨off2 H a b,pr,λ _=>False⟩ a b (λ _ h=>h),pin,Lh N.length ds c c',r,?_⟩
  refine (Fin.bind f).mono λ o p=>?_
  cases o with
  | rt d =>
   rintro x c1 c2 v H' rfl s' z1 z2 z3
   exact p v H' s' z1 z2 z3
  | nx E'=>exact p.elim
  | bk E'=>exact p.elim
  | ct E'=>exact p.elim)
theorem Am1 (Dn:Dfn K mg x st f fd) (hb:Binds K fd ps []):CalQ P w K mg base x ps k λ _ _ _=>.no :=
 ⟨f,fd,Dn.mg,Dn.fn.kp,hb,⟨λ vs H Q E h=>h.1,λ A outer s H args us vs Q E hr e0 b r h=>by
  obtain⟨_,_,_,_,_,_,_,_,_,_,_,_,_,_,_,_,_,fn⟩:=h
  exact False.elim fn⟩⟩
end
noncomputable def Agt (j j':Nat):Ev->R (List D):=λ E=>match E[j]?,E[j']? with
 | some (.ow (.dic _)),some (.ow (.dic _))=>.ok []
 | _,_=>.no
def SAQ (X:Cx) (G:Fc) (es:List Expr) (j j':Nat) (m:Ev->R (List D)):Prop :=
 PA X es λ σ H Q=>∃ E,Rel X.K G E σ H/\Fin (m E) (λ ds=>∀ vs a b H',Same H H'->Rps X.K H' (Ow G.pr E σ) ds vs->Pin j a σ->Pin j' b σ->Q (vs++[.ref a,.ref b]) H') G.xc
noncomputable def Aij (j j' n:Nat) (dn:List D->Kvs->Kvs->R (D × Kvs × Kvs)) (ma:Ev->R (List D)):Ev->R (Bool × Ev):=λ E=>match E[j]?,E[j']? with
 | some (.ow (.dic c)),some (.ow (.dic c'))=>ma E >>= λ ds=>if ds.length+2=n then dn ds c c' >>= λ p=>(match p.1 with
  | .bl k=>.ok (k,(E.set j (.ow (.dic p.2.1))).set j' (.ow (.dic p.2.2)))
  | _=>.no) else .no
 | _,_=>.no
section
variable {X:Cx}{G:Fc}{e:Expr}{es:List Expr}{me:EV}{ma:Ev->R (List D)}{j j':Nat}
theorem Aae (j j':Nat) {x y:Str}{p p':Pos}(hN:X.N[j]?=some x:=by rfl) (hN':X.N[j']?=some y:=by rfl) (hv:Vis X.env.scope x:=by first|exact Or.inl rfl|exact Or.inr (Or.inl rfl)|exact Or.inr (Or.inr rfl)) (hv':Vis X.env.scope y:=by first|exact Or.inl rfl|exact Or.inr (Or.inl rfl)|exact Or.inr (Or.inr rfl)) (hd:(x == ("__debug__":Str))=false:=by decide) (hcd:(x == ("__classdict__":Str))=false:=by decide) (hd':(y == ("__debug__":Str))=false:=by decide) (hcd':(y == ("__classdict__":Str))=false:=by decide)
  (hs:starEach [.Name x p,.Name y p'] X.env=(false,eval (.Name x p) X.env) :: starEach [.Name y p'] X.env:=by rfl) (hs':starEach [.Name y p'] X.env=(false,eval (.Name y p') X.env) :: starEach [] X.env:=by rfl):SAQ X G [.Name x p,.Name y p'] j j' (Agt j j') :=
 (Ak (Kl hN hv hd hcd) (Ak (Kl hN' hv' hd' hcd') Bl hs') hs).imp λ σ H Q h=>by
  obtain⟨E,hr,f⟩:=h
  unfold Agt at f
  split at f
  ·rename_i c c' hj hj'
   obtain⟨a,e1,e2,e3⟩:=hr.ow j _ hj
   obtain⟨b,e1',e2',e3'⟩:=hr.ow j' _ hj'
   exact⟨.ref a,e1,.ref b,e1',f [] a b H (Same.refl _) Rps.nil e1 e1'⟩
  ·exact f.elim
theorem Ob (he:SF X G e me) (hes:SAQ X G es j j' ma) (hs:starEach (e :: es) X.env=(false,eval e X.env) :: starEach es X.env:=by rfl):SAQ X G (e :: es) j j' (Ab me ma) :=
 (Ak he hes hs).imp λ σ H Q h=>by
  obtain⟨E,hr,f⟩:=h
  refine⟨E,hr,(Fin.bind f).mono λ d p v H1 s1 z=>⟨E,hr.same s1,(Fin.bind p).mono λ ds p vs a b H2 s2 rs pn pn'=>p (v :: vs) a b H2 (s1.trans s2) (Rps.cons (z.mono s2 λ _ z=>z) rs) pn pn'⟩⟩
theorem Rel.changed2 {K:PySem.W.Frag}{E:Ev}{σ:St}{H H':Hp}{a b:Addr}{c c' d d':Kvs}(r:Rel K G E σ H) (hj:E[j]?=some (.ow (.dic c))) (hj':E[j']?=some (.ow (.dic c'))) (pn:Pin j a σ) (pn':Pin j' b σ) (nab:a≠b) (s:Same (off2 H a b) H') (ow:Own K H' (Ow G.pr E σ) (.dic d) a) (ow':Own K H' (Ow G.pr E σ) (.dic d') b) :
  Rel K G ((E.set j (.ow (.dic d))).set j' (.ow (.dic d'))) σ H':=by
 classical
 obtain⟨oa,_,wa⟩:=Mh r hj pn
 obtain⟨ob,_,wb⟩:=Mh r hj' pn'
 have njj:j≠j':=λ z=>by
  subst z
  unfold Pin at pn pn'
  rw [pn] at pn';cases pn';exact nab rfl
 let H1:Hp:=λ x=>if x=b then H b else H' x
 have hb1:H1 b=H b:=if_pos rfl
 have hn1:∀ x,x≠b->H1 x=H' x:=λ x h=>if_neg h
 have s1:Same (offA H a) H1:=λ x o h=>by
  by_cases e:x=b
  ·subst e;rw [G7 (Ne.symm nab)] at h;rw [hb1];exact h
  ·rw [hn1 x e];exact s x o (by show offA (offA H a) b x=_;rw [G7 e];exact h)
 have mv:∀ x o,¬ Ow G.pr E σ x->H' x=some o->H1 x=some o/\¬ Ow G.pr E σ x:=λ x o nx h=>by
  refine⟨?_,nx⟩
  rw [hn1 x λ z=>by subst z;exact nx wb];exact h
 have ow1:Own K H1 (Ow G.pr E σ) (.dic d) a:=by
  obtain⟨ws,w1,w2⟩:=ow
  exact⟨ws,by rw [hn1 a nab];exact w1,w2.move mv⟩
 have r1:=r.changed hj pn s1 ow1
 have osub:∀ x,Ow G.pr (E.set j (.ow (.dic d))) σ x->Ow G.pr E σ x:=λ x h=>by
  rcases h with h|⟨i,d,h1,h2⟩
  ·exact .inl h
  ·rcases get_set h1 with ⟨rfl,_⟩|⟨_,h1⟩
   ·exact .inr ⟨i,_,hj,h2⟩
   ·exact .inr ⟨i,d,h1,h2⟩
 refine r1.changed (c:=c') (by rw [List.getElem?_set_ne njj];exact hj') pn' (λ x o h=>?_) (ow'.mono (Same.refl _) osub)
 by_cases e:x=b
 ·subst e;rw [Uo] at h;cases h
 ·rw [G7 e,hn1 x e] at h;exact h
theorem Zy {k kk:Nat}{ps:List Str}{dn:List D->Kvs->Kvs->R (D × Kvs × Kvs)}{x:Str}{p pos:Pos}(C:CalQ X.prog X.w X.K X.mg X.base x ps k dn) (hx:∀ c,¬ G.xc c) (hr:Room kk X.A) (hk:k<=kk) (hg:Gl X x) (ha:SAQ X G (e :: es) j j' ma) (njj:j≠j':=by decide)
  (hdb:(x == ("__debug__":Str))=false:=by decide) (he:starEach (e :: es) X.env=(false,eval e X.env) :: starEach es X.env:=by rfl) (hpl:(backTo pos (starEach es X.env)).any (·.1)=false:=by rfl)
  (ht:∀ whole,isTrue (.Call (.Name x p) (e :: es) [] pos) X.env whole=(do let v ← whole;standAt (Expr.Call (.Name x p) (e :: es) [] pos).pos;holding [v] (truthy v)):=by intro _;rfl) :
  STc X G (.Call (.Name x p) (e :: es) [] pos) (Aij j j' ps.length dn ma):=by
 obtain⟨f,fd,hm,hk',hb,F⟩:=C.ex
 refine (Afd (Di F (hr.mono hk) hg hm hk' hb .nil Ja ha hdb he hpl) ht).imp λ σ H Q h=>?_
 obtain⟨E,hr,f⟩:=h
 unfold Aij at f
 split at f
 ·rename_i c c' hj hj'
  refine⟨E,hr,(Fin.bind f).mono λ ds f vs a b H1 s1 rs pn pn'=>?_⟩
  split at f
  ·rename_i hl
   have hr1:=hr.same s1
   obtain⟨oa,_,wa⟩:=Mh hr1 hj pn
   obtain⟨ob,_,wb⟩:=Mh hr1 hj' pn'
   have nab:a≠b:=λ z=>by
    subst z
    exact njj (hr1.ne j j' _ _ a hj hj' pn pn')
   have sub:∀ x,or2 (λ x=>Ow G.pr E σ x/\x≠a/\x≠b) a b x->Ow G.pr E σ x:=λ x hx=>by
    rcases hx with (hx|hx)|hx
    ·exact hx.1
    ·rw [hx];exact wa
    ·rw [hx];exact wb
   have bus:∀ x,Ow G.pr E σ x->or2 (λ x=>Ow G.pr E σ x/\x≠a/\x≠b) a b x:=λ x hx=>by
    by_cases q:x=a
    ·exact .inl (.inr q)
    ·by_cases q':x=b
     ·exact .inr q'
     ·exact .inl (.inl ⟨hx,q,q'⟩)
   refine⟨by rw [List.append_nil,List.length_append,rs.length];exact hl,λ x=>Ow G.pr E σ x/\x≠a/\x≠b,ds,vs,a,b,c,c',by rw [List.append_nil],hl,λ z=>z.2.1 rfl,λ z=>z.2.2 rfl,nab,λ x z=>hr1.owned z.1,rs.mono (Same.refl _) sub,oa.mono (Same.refl _) sub,ob.mono (Same.refl _) sub,?_⟩
   cases q:dn ds c c' with
   | er k=>rw [q] at f;exact hx k f
   | no=>rw [q] at f;exact f
   | ok pc =>
    rw [q] at f
    simp only [R.ok_bind] at f
    intro v H' s2 z1 z2 z3
    have hr2:=hr1.changed2 hj hj' pn pn' nab s2 (z2.mono (Same.refl _) bus) (z3.mono (Same.refl _) bus)
    obtain⟨x1,x2,x3⟩:=pc
    cases x1 with
    | bl k =>
     unfold Rp at z1
     exact⟨k,z1,f H' hr2⟩
    | _=>exact f.elim
  ·exact f.elim
 ·exact f.elim
end
section
variable {prog:Program}{w:World}{A:Around}{s:Shared}{I S:Addr}{fp wr:List Addr}{P:Nat->Value->Prop}{St:Nat->Heap->Prop}{R:Result->Shared->Prop}
theorem Z9 {v:Value}{c:Nat}(W:Walks prog w A.in1 I fp wr 2 P St) (hw:S∉wr) (hst:St 2 s.heap) (hS:s.heap.get? S=some { cls:=.type "list",dict:=none,data:=.seq #[v,v] c,slots:=#[] })
  (hR:∀ h' tk,(∀ b o,b∉wr->b≠S->s.heap.get? b=some o->h'.get? b=some o)->R (.ok (.ret v)) { s with heap:=h',toks:=tk }):codeAny (model prog w) A (.builtin "min.loop" ⟨[.ref I,.none,.ref S],[]⟩) R s:=by
 refine codeAny_builtin F.entry_min_loop ?_
 rw [Around.under_plainId F.plain_min_loop _]
 show wpAny _ A.in1 (seqItems? (.ref S) >>= _) _ _ s
 refine wpAny_bind (wpAny_seqItems hS rfl ?_)
 show wpAny _ A.in1 (tryCatch (pyNext (.ref I)) _ >>= _) _ _ s
 refine wpAny_bind (wpAny_tryCatch (W.done s _ _ hst λ h' tk hk'=>?_))
 have hS':=hk' S _ hw hS
 show wpAny _ A.in1 (updateSeq S (λ _=>#[]) >>= _) _ _ _
 refine wpAny_bind ?_
 refine wpAny_updateSeq hS' rfl (wpAny_bind (wpAny_letGo (wpAny_pure ?_)))
 exact hR _ tk λ b o hbw hbS e=>(Heap.get?_update_other _ _ (Ne.symm hbS)).trans (hk' b o hbw e)
theorem Aba {a b:Value}{k:Bool}{c:Nat}(W:Walks prog w A.in1 I fp wr 2 P St) (hf:S∉fp) (hst:St 1 s.heap) (hP:∀ v,P 1 v->v=b) (hS:s.heap.get? S=some { cls:=.type "list",dict:=none,data:=.seq #[a,a] c,slots:=#[] })
  (hcmp:∀ (s':Shared) (Q:Value->Shared->Prop) (E:Value->Shared->Prop),(∀ c o,c∉wr->c≠S->s.heap.get? c=some o->s'.heap.get? c=some o)->Q (.bool k) s'->wpAny (model prog w) A.in1 (richCompare .Lt b a) Q E s')
  (hR:∀ h' tk,(∀ b o,b∉wr->b≠S->s.heap.get? b=some o->h'.get? b=some o)->R (.ok (.ret (if k=true then b else a))) { s with heap:=h',toks:=tk }):codeAny (model prog w) A (.builtin "min.loop" ⟨[.ref I,.none,.ref S],[]⟩) R s:=by
 have hw:S∉wr:=λ h=>hf (W.sub _ h)
 have hname:(toString "min"++toString ".loop":String)="min.loop":=by decide
 refine codeAny_builtin F.entry_min_loop ?_
 rw [Around.under_plainId F.plain_min_loop _]
 show wpAny _ A.in1 (seqItems? (.ref S) >>= _) _ _ s
 refine wpAny_bind (wpAny_seqItems hS rfl ?_)
 show wpAny _ A.in1 (tryCatch (pyNext (.ref I)) _ >>= _) _ _ s
 refine wpAny_bind (wpAny_tryCatch (W.item 1 s _ _ (by decide) hst λ v h' tk hv hst' hk'=>?_))
 cases hP v hv
 have hS':=hk' S _ hw hS
 show wpAny _ A.in1 (tryCatch (holding [b,b] (richCompare .Lt b a >>= _)) _ >>= _) _ _ _
 refine wpAny_bind (wpAny_tryCatch (wpAny_holding (wpAny_bind (hcmp _ _ _ (λ c o h1 _ e=>hk' c o h1 e) ?_))))
 refine wpAny_bind (wpAny_holding (wpAny_truthy_bool ?_))
 refine wpAny_bind (wpAny_letGo (wpAny_pure ?_))
 cases k with
 | true =>
  simp only [if_true]
  refine wpAny_bind ?_
  refine wpAny_updateSeq hS' rfl (wpAny_bind (wpAny_letGo ?_))
  rw [hname]
  refine wpAny_pure ⟨plainId_quiet F.plain_min_loop _,Z9 W hw (W.frame _ _ _ hst' λ c hc o e=>?_) (Heap.get?_update_self _ hS' rfl) λ h'' tk'' hk''=>?_⟩
  ·exact (Heap.get?_update_other _ _ (λ h:S=c=>hf (by rw [h];exact hc))).trans e
  ·exact hR h'' tk'' λ c o h1 h2 e=>hk'' c o h1 h2 ((Heap.get?_update_other _ _ (Ne.symm h2)).trans (hk' c o h1 e))
 | false =>
  simp only [Bool.false_eq_true,if_false]
  refine wpAny_bind (wpAny_letGo ?_)
  rw [hname]
  refine wpAny_pure ⟨plainId_quiet F.plain_min_loop _,Z9 W hw hst' hS' λ h'' tk'' hk''=>?_⟩
  exact hR h'' tk'' λ c o h1 h2 e=>hk'' c o h1 h2 (hk' c o h1 e)
theorem Ac9 {a b:Value}{k:Bool}{c:Nat}(W:Walks prog w A.in1 I fp wr 2 P St) (hf:S∉fp) (hst:St 0 s.heap) (hP0:∀ v,P 0 v->v=a) (hP:∀ v,P 1 v->v=b) (hS:s.heap.get? S=some { cls:=.type "list",dict:=none,data:=.seq #[] c,slots:=#[] })
  (hcmp:∀ (s':Shared) (Q:Value->Shared->Prop) (E:Value->Shared->Prop),(∀ c o,c∉wr->c≠S->s.heap.get? c=some o->s'.heap.get? c=some o)->Q (.bool k) s'->wpAny (model prog w) A.in1 (richCompare .Lt b a) Q E s')
  (hR:∀ h' tk,(∀ b o,b∉wr->b≠S->s.heap.get? b=some o->h'.get? b=some o)->R (.ok (.ret (if k=true then b else a))) { s with heap:=h',toks:=tk }):codeAny (model prog w) A (.builtin "min.loop" ⟨[.ref I,.none,.ref S],[]⟩) R s:=by
 have hw:S∉wr:=λ h=>hf (W.sub _ h)
 have hname:(toString "min"++toString ".loop":String)="min.loop":=by decide
 refine codeAny_builtin F.entry_min_loop ?_
 rw [Around.under_plainId F.plain_min_loop _]
 show wpAny _ A.in1 (seqItems? (.ref S) >>= _) _ _ s
 refine wpAny_bind (wpAny_seqItems hS rfl ?_)
 show wpAny _ A.in1 (tryCatch (pyNext (.ref I)) _ >>= _) _ _ s
 refine wpAny_bind (wpAny_tryCatch (W.item 0 s _ _ (by decide) hst λ v h' tk hv hst' hk'=>?_))
 cases hP0 v hv
 have hS':=hk' S _ hw hS
 show wpAny _ A.in1 (updateSeq S (λ _=>#[a,a]) >>= _) _ _ _
 refine wpAny_bind ?_
 refine wpAny_updateSeq hS' rfl ?_
 rw [hname]
 have old:∀ c o,c∉wr->c≠S->s.heap.get? c=some o->(h'.update S (Obj.mapSeq λ _=>#[a,a])).get? c=some o:=λ c o h1 h2 e=>(Heap.get?_update_other _ _ (Ne.symm h2)).trans (hk' c o h1 e)
 refine wpAny_pure ⟨plainId_quiet F.plain_min_loop _,Aba (k:=k) W hf (W.frame _ _ _ hst' λ c hc o e=>?_) hP (Heap.get?_update_self _ hS' rfl) (λ s' Q E kp=>hcmp s' Q E λ c o h1 h2 e=>kp c o h1 h2 (old c o h1 h2 e)) λ h'' tk'' hk''=>?_⟩
 ·exact (Heap.get?_update_other _ _ (λ h:S=c=>hf (by rw [h];exact hc))).trans e
 ·exact hR h'' tk'' λ c o h1 h2 e=>hk'' c o h1 h2 (old c o h1 h2 e)
end
section
variable {prog:Program}{w:World}{A:Around}{E:Value->Shared->Prop}{s:Shared}
theorem Ab9 {a b:Value}{k:Bool}{Q:Value->Shared->Prop}(hh:A.handled=none)
  (hcmp:∀ (s':Shared) (Q:Value->Shared->Prop) (E:Value->Shared->Prop),(∀ c o,s.heap.get? c=some o->s'.heap.get? c=some o)->Q (.bool k) s'->wpAny (model prog w) A.in1 (richCompare .Lt b a) Q E s')
  (h:∀ h' tk,(∀ c o,s.heap.get? c=some o->h'.get? c=some o)->Q (if k=true then b else a) { s with heap:=h',toks:=tk }):wpAny (model prog w) A (call (.builtin "min") [a,b]) Q E s:=by
 have hname:(toString "min"++toString ".loop":String)="min.loop":=by decide
 refine call_function_tree F.kind_min F.plain_min F.entry_min (F.args_min2 _ _) ?_
 show wpAny _ A.in1 (Builtin.Builtins.bindParams "min" ["key","default"] 0 ⟨[],[]⟩ >>= _) _ _ s
 refine wpAny_bind (wpAny_of_eq (show Builtin.Builtins.bindParams "min" ["key","default"] 0 ⟨[],[]⟩=pure [none,none] from rfl) ?_)
 show wpAny _ A.in1 (newTuple [a,b] >>= _) _ _ s
 refine wpAny_bind (wpAny_newObj_type ?_)
 have hT:(s.heap.push { cls:=.type "tuple",data:=.seq #[a,b] }).IsTuple s.heap.objs.size #[a,b]:=⟨_,Heap.get?_push_size _ rfl,rfl,0,rfl⟩
 refine wpAny_bind (wpAny_pyIter_tuple hT ?_)
 have z1:(s.heap.push { cls:=.type "tuple",data:=.seq #[a,b] }).objs.size=s.heap.objs.size+1:=Heap.size_push ..
 have z2:((s.heap.push { cls:=.type "tuple",data:=.seq #[a,b] }).push { cls:=.type "tuple_iterator",data:=.fields #[.ref s.heap.objs.size,.int 0 0] }).objs.size=s.heap.objs.size+2:=by rw [Heap.size_push,z1]
 refine wpAny_bind (wpAny_newObj_type ?_)
 rw [hname]
 have W:=Walks.tuple (prog:=prog) (w:=w) (A:=A.in1) hh (s.heap.objs.size+1) s.heap.objs.size (Nat.ne_of_lt (Nat.lt_succ_self _)) #[a,b]
 have nI:∀ c o,s.heap.get? c=some o->c≠s.heap.objs.size+1/\c≠s.heap.objs.size+2:=λ c o e=>by
  have:=Heap.lt_size e
  exact⟨λ z=>by rw [z] at this;exact absurd this (Nat.not_lt.mpr (Nat.le_succ _)),λ z=>by rw [z] at this;exact absurd this (Nat.not_lt.mpr (Nat.le_add_right _ _))⟩
 have up:∀ c o,s.heap.get? c=some o->(((s.heap.push { cls:=.type "tuple",data:=.seq #[a,b] }).push { cls:=.type "tuple_iterator",data:=.fields #[.ref s.heap.objs.size,.int 0 0] }).push { cls:=.type "list",data:=.seq #[] }).get? c=some o:=λ c o e=>Heap.get?_push_of_some _ (Heap.get?_push_of_some _ (Heap.get?_push_of_some _ e))
 have hit:((s.heap.push { cls:=.type "tuple",data:=.seq #[a,b] }).push { cls:=.type "tuple_iterator",data:=.fields #[.ref s.heap.objs.size,.int 0 0] }).get? (s.heap.objs.size+1)=some { cls:=.type "tuple_iterator",data:=.fields #[.ref s.heap.objs.size,.int 0 0] }:=by
  rw [<-z1];exact Heap.get?_push_size _ rfl
 have hls:(((s.heap.push { cls:=.type "tuple",data:=.seq #[a,b] }).push { cls:=.type "tuple_iterator",data:=.fields #[.ref s.heap.objs.size,.int 0 0] }).push { cls:=.type "list",data:=.seq #[] }).get? (s.heap.objs.size+2)=some { cls:=.type "list",data:=.seq #[] }:=by
  rw [<-z2];exact Heap.get?_push_size _ rfl
 refine wpAny_pure ⟨plainId_quiet F.plain_min_loop _,?_⟩
 rw [z1,z2]
 refine Ac9 (a:=a) (b:=b) (k:=k) W (λ hm=>?_) ⟨⟨_,Heap.get?_push_of_some _ hit,rfl,rfl⟩,(hT.push _).push _⟩ (λ v hv=>?_) (λ v hv=>?_) hls (λ s' Q E kp=>hcmp s' Q E λ c o e=>kp c o ?_ (nI c o e).2 (up c o e)) λ h' tk kp=>h h' tk λ c o e=>kp c o ?_ (nI c o e).2 (up c o e)
 ·rcases List.mem_cons.mp hm with e1|hm
  ·exact absurd (Nat.add_left_cancel e1) (by decide)
  ·exact absurd (List.mem_singleton.mp hm) (Nat.ne_of_gt (Nat.lt_add_of_pos_right (by decide)))
 ·simpa using hv.symm
 ·simpa using hv.symm
 ·exact λ hm=>(nI c o e).1 (List.mem_singleton.mp hm)
 ·exact λ hm=>(nI c o e).1 (List.mem_singleton.mp hm)
end
section
variable {X:Cx}{G:Fc}
def Asv (K:PySem.W.Frag):List V->Hp->VK->Prop:=λ xs H Q=>∃ a b ns ms,xs=[.ref a,.ref b]/\SqT K H a (ns.map V.int)/\SqT K H b (ms.map V.int)/\Q (.ref (if HT.lexLt ms ns=true then b else a)) H
theorem Afy (gd:Gd X):Fy X (.builtin "min") (Asv X.K):=by
 intro pins s σ H xs us Q I r h
 obtain⟨a,b,ns,ms,rfl,ha,hb,q⟩:=h
 obtain⟨u,v,rfl,ru,rv⟩:=vals2 r
 cases ru
 cases rv
 obtain⟨i1,v1,t1,_⟩:=I.tuple ha
 obtain⟨i2,v2,t2,_⟩:=I.tuple hb
 refine Ab9 (k:=HT.lexLt ms ns) (I.ok.hd gd.calm) (λ s' Q E kp hq=>?_) λ h' tk kp=>⟨_,H,I.kept kp,?_,q⟩
 ·have up:∀ {c:Addr} {its:Array Value},IsTup s.heap c its->IsTup s'.heap c its:=λ ⟨o,e,z⟩=>⟨o,kp _ _ e,z⟩
  exact HT.lt_tupInts (up t2) (up t1) (intsAre_of v2) (intsAre_of v1) (by have:=gd.un;show X.A.units+1<cLine;omega) hq
 ·by_cases hc:HT.lexLt ms ns=true
  ·rw [if_pos hc,if_pos hc];rfl
  ·rw [if_neg hc,if_neg hc];rfl
noncomputable def Akf:D->D->Option D
 | .tup a,.tup b=>do let x ← Ht a;let y ← Ht b;pure (if HT.lexLt y x=true then .tup b else .tup a)
 | _,_=>none
theorem Ak9 {a b:Expr}{ma mb:EV}{p pos:Pos}(gd:Gd X) (hg:Gl X "min") (hm:X.mg "min"=none) (ha:SE X G a ma) (hb:SE X G b mb)
  (hs:starEach [a,b] X.env=(false,eval a X.env) :: starEach [b] X.env:=by rfl) (hs2:starEach [b] X.env=(false,eval b X.env) :: starEach [] X.env:=by rfl) (hpl:(backTo pos (starEach [b] X.env)).any (·.1)=false:=by rfl):SF X G (.Call (.Name "min" p) [a,b] [] pos) (e2 Akf ma mb) :=
 Px (Afy gd) (λ H O dx dy d v w Q fr e rx ry q=>by
  cases dx with
  | tup a =>
   cases dy<;>simp [Akf,Option.bind_eq_some_iff] at e
   obtain⟨ns,e1,ms,e2,e⟩:=e
   obtain⟨l,xs,rfl,h1,r1⟩:=rx.tup
   obtain⟨l',ys,rfl,h2,r2⟩:=ry.tup
   have p1:=r1
   have p2:=r2
   rw [Fl e1] at p1
   rw [Fl e2] at p2
   refine⟨l,l',ns,ms,rfl,SqT.of (by rw [<-p1.ints];exact h1),SqT.of (by rw [<-p2.ints];exact h2),q _ H (Same.refl _) ?_⟩
   rw [<-e]
   by_cases hc:HT.lexLt ms ns=true
   ·rw [if_pos hc,if_pos hc];unfold Rp;exact⟨l',ys,rfl,fr.tup h2,h2,r2⟩
   ·rw [if_neg hc,if_neg hc];unfold Rp;exact⟨l,xs,rfl,fr.tup h1,h1,r1⟩
  | _=>cases e) hg hm (by decide +kernel) ha hb (hs:=hs) (hs2:=hs2) (hpl:=hpl)
end
section
variable {P:Program}{w:World}{K:PySem.W.Frag}{elts:List Expr}{k:Nat}{pos:Pos}
end
section
variable {X:Cx}{G:Fc}{a:Expr}{p pos tpos:Pos}{elts:List Expr}{tk:Nat}
end
end M
namespace M
open PySem PySem.W PySem.Spec PyProof.Rows L2
noncomputable def Ag5:List D->Option (List Str)
 | []=>some []
 | .str z :: r=>(Ag5 r).map λ zs=>z :: zs
 | _ :: _=>none
theorem Wj:∀ {ds:List D}{zs:List Str},Ag5 ds=some zs->ds=zs.map D.str
 | [],_,e=>by cases e;rfl
 | .str z :: r,_,e=>by
  simp only [Ag5,Option.map_eq_some_iff] at e
  obtain⟨zs,e1,rfl⟩:=e
  rw [Wj e1];rfl
 | .non :: _,_,e=>by cases e
 | .bl _ :: _,_,e=>by cases e
 | .int _ :: _,_,e=>by cases e
 | .tup _ :: _,_,e=>by cases e
 | .lst _ :: _,_,e=>by cases e
 | .dic _ :: _,_,e=>by cases e
 | .scr _ :: _,_,e=>by cases e
theorem Zh {K:PySem.W.Frag}{H:Hp}{O:Addr->Prop}:∀ {zs:List Str}{vs:List V},Rps K H O (zs.map D.str) vs->vs=zs.map V.str
 | [],_,h=>by unfold Rps at h;exact h
 | z :: zs,_,h=>by
  rw [List.map_cons] at h
  unfold Rps at h
  obtain⟨v,r,rfl,p,q⟩:=h
  unfold Rp at p
  rw [p,Zh q];rfl
theorem M5:∀ {zs:List Str}{us:List Value},Vals (zs.map V.str) us->StrsAre us zs
 | [],_,.nil=>.nil
 | z :: zs,_,.cons ⟨t,e⟩ r=>by subst e;exact .cons z t (M5 r)
section
variable {X:Cx}
def rJoin (K:PySem.W.Frag):V->List V->Hp->VK->Prop:=λ x xs H Q=>∃ sep p ys,x=.str sep/\xs=[.ref p]/\SqL K H p (ys.map V.str)/\sep.length<=16/\(ys.map (·.length)).sum+ys.length<=1048576/\Q (.str (Txt.join sep ys)) H
theorem Aks:MtR X "str.join" (rJoin X.K):=by
 rintro pins s σ H x xs v us Q I rx rv ⟨sep,p,ys,rfl,rfl,hp,h1,h2,q⟩
 obtain⟨t,rfl⟩:=rx
 obtain⟨u,rfl,ru⟩:=vals1 rv
 cases ru
 obtain⟨its,rv,pl,hz⟩:=I.list hp
 exact join_listW pl.isList (M5 rv) h1 h2 λ t' k=>⟨.str _,H,I.tok _,⟨_,rfl⟩,q⟩
end
section
variable {X:Cx}{G:Fc}{o e:Expr}{mo m:EV}{apos cpos:Pos}
noncomputable def Aps:D->D->Option D
 | .str sep,.lst ds=>(Ag5 ds).bind λ ys=>if sep.length<=16/\(ys.map (·.length)).sum+ys.length<=1048576 then some (.str (Txt.join sep ys)) else none
 | _,_=>none
noncomputable def Alm (sep:Str) (m:EV):EV:=λ E=>m E >>= λ y=>ofO (Aps (.str sep) y)
theorem Afj {sep:Str}{j:Nat}{kpos:Pos}(he:SE X G e m) (hbase:attributeBase (.Constant (.str sep) j kpos) "join" X.env (eval (.Constant (.str sep) j kpos) X.env)=eval (.Constant (.str sep) j kpos) X.env:=by rfl)
  (hfew:((backTo cpos (starEach [e] X.env)).all (λ x=>!x.1) && (backToKw cpos (keywordEach [] X.env)).all (λ x=>x.1.isSome) && decide ([e].length+([]:List Keyword).length+(if ([]:List Keyword).isEmpty then 0 else 1)<30))=true:=by rfl)
  (hline:(apos.endLine == cpos.line)=true:=by rfl) (hs:starEach [e] X.env=(false,eval e X.env) :: starEach [] X.env:=by rfl) (hplain:(backTo cpos (starEach [] X.env)).any (·.1)=false:=by rfl) :
  SF X G (.Call (.Attribute (.Constant (.str sep) j kpos) "join" apos) [e] [] cpos) (Alm sep m) :=
 (Abj PySem.F.plainAttrs_str PySem.F.slot_str_join PySem.F.type_str_join Aks Zr (Ak he Bl hs) hbase hfew hline hs hplain).imp λ σ H Q z0=>z0.elim λ E z0=>z0.elim λ hr h=>⟨rfl,E,hr,(Fin.bind h).mono λ dy fy w H2 s2 p2=>by
  obtain⟨d,e,q⟩:=Fin.of fy
  cases dy with
  | lst ds =>
   simp only [Aps,Option.bind_eq_some_iff] at e
   obtain⟨ys,e1,e2⟩:=e
   split at e2
   ·rename_i hc
    cases e2
    obtain⟨a,vs,rfl,h1,r1⟩:=p2.lst
    rw [Wj e1] at r1
    have:=Zh r1
    subst this
    exact⟨sep,a,ys,rfl,rfl,SqL.of h1,hc.1,hc.2,q _ H2 s2 (by unfold Rp;rfl)⟩
   ·cases e2
  | _=>cases e⟩
end
end M
namespace M
open PySem PySem.Spec PyProof.Rows L2
section
variable {prog:Program}{w:World}{A:Around}{E:Value->Shared->Prop}{s:Shared}
theorem Ahk {it t:Addr}{i:Nat}{items:Array Value}{x:Value}{Q:Value->Shared->Prop}(hit:s.heap.IsTupleIter it t i) (ht:s.heap.IsTuple t items) (hx:items[i]?=some x)
  (hQ:∀ h',h'.IsTupleIter it t (i+1)->Heap.SameBut it s.heap h'->Q x { s with heap:=h' }):wpAny (model prog w) A (Builtin.SmallTypes.nextOf (.ref it)) Q E s:=by
 obtain⟨o,ho,hc,hd⟩:=id hit
 obtain⟨ol,hol,_,nl,hdl⟩:=ht
 unfold Builtin.SmallTypes.nextOf
 refine wpAny_bind (wpAny_callSpecial?_slot (name:=Str.ofString "__next__") hit.typeIs F.slot_tuple_iterator_next (wpAny_call_entry F.slot_tuple_iterator_next hit.typeIs F.entry_tuple_iterator_next ?_ (F.args_tuple_iterator_next_1 _)))
 show wpAny _ _ (field (.ref it) 0 >>= _) _ _ s
 refine wpAny_bind (wpAny_field ho hd (x:=.ref t) rfl ?_)
 show wpAny _ _ (if (Value.ref t == Value.none)=true then _ else _) _ _ s
 rw [if_neg (show ¬ ((Value.ref t == Value.none)=true) from Bool.false_ne_true)]
 show wpAny _ _ (field (.ref it) 1 >>= _) _ _ s
 refine wpAny_bind (wpAny_field ho hd (x:=.int i 0) rfl ?_)
 show wpAny _ _ (seqItems? (.ref t) >>= _) _ _ s
 refine wpAny_bind (wpAny_seqItems hol hdl ?_)
 simp only [Int.toNat_natCast,hx]
 refine wpAny_bind (wpAny_setField ho hd (by simp) (wpAny_pure ⟨x,rfl,wpAny_pure (hQ _ ?_ (Heap.SameBut.update ..))⟩))
 exact⟨_,Heap.get?_update_self _ ho (Obj.isFreed_of_fields (Obj.data_mapFields hd _)),(Obj.cls_mapFields ..).trans hc,by rw [Obj.data_mapFields hd];simp [rawInt]⟩
theorem Vh {it t:Addr}{i:Nat}{items:Array Value}{Q:Value->Shared->Prop}(hh:A.handled=none) (hit:s.heap.IsTupleIter it t i) (ht:s.heap.IsTuple t items) (hx:items[i]?=none)
  (hE:∀ h' e,Heap.ExtBut it s.heap h'->(∃ o,h'.get? e=some o/\o.cls=.type "StopIteration")->E (.ref e) { s with heap:=h' }):wpAny (model prog w) A (Builtin.SmallTypes.nextOf (.ref it)) Q E s:=by
 obtain⟨o,ho,hc,hd⟩:=id hit
 obtain⟨ol,hol,_,nl,hdl⟩:=ht
 unfold Builtin.SmallTypes.nextOf
 refine wpAny_bind (wpAny_callSpecial?_slot (name:=Str.ofString "__next__") hit.typeIs F.slot_tuple_iterator_next (wpAny_call_entry F.slot_tuple_iterator_next hit.typeIs F.entry_tuple_iterator_next ?_ (F.args_tuple_iterator_next_1 _)))
 show wpAny _ _ (field (.ref it) 0 >>= _) _ _ s
 refine wpAny_bind (wpAny_field ho hd (x:=.ref t) rfl ?_)
 show wpAny _ _ (if (Value.ref t == Value.none)=true then _ else _) _ _ s
 rw [if_neg (show ¬ ((Value.ref t == Value.none)=true) from Bool.false_ne_true)]
 show wpAny _ _ (field (.ref it) 1 >>= _) _ _ s
 refine wpAny_bind (wpAny_field ho hd (x:=.int i 0) rfl ?_)
 show wpAny _ _ (seqItems? (.ref t) >>= _) _ _ s
 refine wpAny_bind (wpAny_seqItems hol hdl ?_)
 simp only [Int.toNat_natCast,hx]
 refine wpAny_bind (wpAny_rule (wpAny_bind (wpAny_setField ho hd (by simp) ?_)))
 show wpAny _ _ (newExc (.type "StopIteration") [] >>= _) _ _ _
 refine wpAny_bind ?_
 simp only [newExc,newTuple]
 refine wpAny_bind (wpAny_newObj_type ?_ (by size_fits))
 refine wpAny_bind (m:=firstArgMember _ _) (wpAny_of_eq (a:=Value.none) (by first|rfl|(simp only [firstArgMember];rfl)) ?_)
 refine wpAny_newObj_type ?_ (by size_fits)
 simp only [raiseNew]
 refine wpAny_bind (wpAny_handled ?_)
 first|rw [show A.in1.handled=none from hh]|rw [hh]
 refine wpAny_bind (wpAny_pure (wpAny_throw ?_))
 exact hE _ _ (((Heap.SameBut.update ..).extBut.push _).push _) ⟨_,Heap.get?_push_size _ rfl,rfl⟩
theorem Wc (hh:A.handled=none) (it l:Addr) (hne:l≠it) (items:Array Value):Draws prog w A it [it,l] items.size (λ i v=>items[i]?=some v) (λ i h=>h.IsTupleIter it l i/\h.IsTuple l items) where
 live:=λ _ _ st=>let ⟨o,ho,_⟩:=st.1;⟨o,ho⟩
 frame:=λ _ _ _ st hk=>by
  obtain⟨⟨o,ho,r⟩,⟨o',ho',r'⟩⟩:=st
  exact⟨⟨o,hk it (by simp) o ho,r⟩,⟨o',hk l (by simp) o' ho',r'⟩⟩
 item:=λ i s Q E hi st hQ=>Ahk st.1 st.2 (x:=items[i]) (by simp [hi]) λ h' hit' hs'=>hQ _ h' s.toks (by simp [hi]) ⟨hit',st.2.extBut hs'.extBut hne⟩ hs'
 done:=λ s Q E st hE=>Vh hh st.1 st.2 (by simp) hE
structure ZApart (z TI TO i1 i2:Addr) (f1 f2:List Addr):Prop where
 TIz:TI≠z
 TOz:TO≠z
 i1z:i1≠z
 i2z:i2≠z
 TITO:TI≠TO
 TIi1:TI≠i1
 TIi2:TI≠i2
 TOi1:TO≠i1
 TOi2:TO≠i2
 i12:i1≠i2
 z1:∀ b∈f1,b≠z/\b≠TO/\b≠i2
 z2:∀ b∈f2,b≠z/\b≠TO/\b≠i1
variable {z TI TO i1 i2:Addr}{f1 f2:List Addr}{n1 n2 k1 k2:Nat}{P1 P2:Nat->Value->Prop}{S1 S2:Nat->Heap->Prop}{a b:Value}
theorem Ahn {Q:Value->Shared->Prop}(D:ZApart z TI TO i1 i2 f1 f2) (D1:Draws prog w A i1 f1 n1 P1 S1) (D2:Draws prog w A i2 f2 n2 P2 S2) (hz:IsZip s.heap z TI TO .none) (hTI:IsPair s.heap TI (.ref i1) (.ref i2)) (hTO:IsPair s.heap TO a b)
  (h1:S1 k1 s.heap) (h2:S2 k2 s.heap) (l1:k1<n1) (l2:k2<n2)
  (hQ:∀ x y h' tk,P1 k1 x->P2 k2 y->IsZip h' z TI TO (rawInt s.heap.objs.size)->IsPair h' TO x y->S1 (k1+1) h'->S2 (k2+1) h'->IsPair h' s.heap.objs.size x y->h'.objs.size=s.heap.objs.size+1 →
   (∀ c o,c≠z->c≠TO->c≠i1->c≠i2->s.heap.get? c=some o->h'.get? c=some o)->Q (.ref s.heap.objs.size) { s with heap:=h',toks:=tk }) :
  wpAny (model prog w) A (Builtin.«zip.__next__» ⟨[.ref z],[]⟩) (λ fin s'=>∃ v,fin=.done (.ret v)/\Q v s') E s:=by
 show wpAny _ _ (field (.ref z) 2 >>= _) _ _ _
 refine wpAny_bind (wpAny_field hz rfl (x:=.bool false) rfl ?_)
 show wpAny _ _ (field (.ref z) 3 >>= _) _ _ _
 refine wpAny_bind (wpAny_field hz rfl (x:=.ref TI) rfl ?_)
 refine wpAny_bind (wpAny_seqItems hTI rfl ?_)
 show wpAny _ _ (Builtin.SmallTypes.ownedTupleIsFree (.ref z) >>= _) _ _ _
 refine wpAny_bind ?_
 unfold Builtin.SmallTypes.ownedTupleIsFree
 refine wpAny_bind (wpAny_field hz rfl (x:=.none) rfl (wpAny_pure ?_))
 simp only [if_true]
 refine wpAny_bind (wpAny_rule ?_)
 refine wpAny_bind (wpAny_field hz rfl (x:=.ref TO) rfl ?_)
 refine wpAny_bind (wpAny_setField_rec hz (by simp) λ h₁ hz₁ hs₁=>?_)
 replace hz₁:IsZip h₁ z TI TO .ellipsis:=hz₁
 refine wpAny_bind ?_
 simp only [List.zipIdx_cons,List.zipIdx_nil,List.forIn_cons,List.forIn_nil]
 refine wpAny_bind (wpAny_bind (wpAny_onRaise ?_))
 show wpAny _ _ (Builtin.SmallTypes.nextOf (.ref i1) >>= _) _ _ _
 refine wpAny_bind (D1.item k1 _ _ _ l1 (D1.frame _ _ _ h1 λ c hc o e=>hs₁.extBut _ _ (D.z1 c hc).1 e) λ x h₂ tk₂ hx h1₂ hs₂=>wpAny_pure ?_)
 have hTO₂:IsPair h₂ TO a b:=hs₂.extBut _ _ D.TOi1 (hs₁.extBut _ _ D.TOz hTO)
 refine wpAny_bind (wpAny_seqItems hTO₂ rfl ?_)
 refine wpAny_bind (wpAny_updateSeq_pair hTO₂ λ h₃ hTO₃ hs₃=>?_)
 replace hTO₃:IsPair h₃ TO x b:=hTO₃
 refine wpAny_bind (wpAny_letGo (wpAny_pure ?_))
 refine wpAny_bind (wpAny_bind (wpAny_onRaise ?_))
 show wpAny _ _ (Builtin.SmallTypes.nextOf (.ref i2) >>= _) _ _ _
 refine wpAny_bind (D2.item k2 _ _ _ l2 (D2.frame _ _ _ h2 λ c hc o e=>hs₃.extBut _ _ (D.z2 c hc).2.1 (hs₂.extBut _ _ (D.z2 c hc).2.2 (hs₁.extBut _ _ (D.z2 c hc).1 e))) λ y h₄ tk₄ hy h2₄ hs₄=>wpAny_pure ?_)
 have hTO₄:IsPair h₄ TO x b:=hs₄.extBut _ _ D.TOi2 hTO₃
 refine wpAny_bind (wpAny_seqItems hTO₄ rfl ?_)
 refine wpAny_bind (wpAny_updateSeq_pair hTO₄ λ h₅ hTO₅ hs₅=>?_)
 replace hTO₅:IsPair h₅ TO x y:=hTO₅
 refine wpAny_bind (wpAny_letGo (wpAny_pure (wpAny_pure ?_)))
 refine wpAny_bind (wpAny_seqItems hTO₅ rfl ?_)
 refine wpAny_bind (wpAny_newTuple ?_)
 have hsz:h₅.objs.size=s.heap.objs.size:=by rw [hs₅.1,hs₄.1,hs₃.1,hs₂.1,hs₁.1]
 have hz₅:IsZip h₅ z TI TO .ellipsis:=hs₅.extBut _ _ D.TOz.symm (hs₄.extBut _ _ D.i2z.symm (hs₃.extBut _ _ D.TOz.symm (hs₂.extBut _ _ D.i1z.symm hz₁)))
 have hk₅:∀ c o,c≠z->c≠TO->c≠i1->c≠i2->s.heap.get? c=some o->h₅.get? c=some o:=λ c o c1 c2 c3 c4 e =>
  hs₅.extBut _ _ c2 (hs₄.extBut _ _ c4 (hs₃.extBut _ _ c2 (hs₂.extBut _ _ c3 (hs₁.extBut _ _ c1 e))))
 have h1₅:S1 (k1+1) h₅:=D1.frame _ _ _ h1₂ λ c hc o e=>hs₅.extBut _ _ (D.z1 c hc).2.1 (hs₄.extBut _ _ (D.z1 c hc).2.2 (hs₃.extBut _ _ (D.z1 c hc).2.1 e))
 have h2₅:S2 (k2+1) h₅:=D2.frame _ _ _ h2₄ λ c hc o e=>hs₅.extBut _ _ (D.z2 c hc).2.1 e
 have hzlt:z<h₅.objs.size:=Heap.lt_size hz₅
 show wpAny _ _ (Builtin.SmallTypes.ownedTupleHandOut (.ref z) (.ref h₅.objs.size) >>= _) _ _ _
 refine wpAny_bind ?_
 unfold Builtin.SmallTypes.ownedTupleHandOut
 have hz₆:IsZip (h₅.push { cls:=.type "tuple",data:=.seq #[x,y] }) z TI TO .ellipsis:=Heap.get?_push_of_some _ hz₅
 refine wpAny_bind (wpAny_setField_rec hz₆ (by simp) λ h₇ hz₇ hs₇=>?_)
 replace hz₇:IsZip h₇ z TI TO (rawInt h₅.objs.size):=hz₇
 refine wpAny_setField_rec hz₇ (by simp) λ h₈ hz₈ hs₈=>?_
 replace hz₈:IsZip h₈ z TI TO (rawInt h₅.objs.size):=hz₈
 have up:∀ c o,c≠z->h₅.get? c=some o->h₈.get? c=some o:=λ c o c1 e=>hs₈.extBut _ _ c1 (hs₇.extBut _ _ c1 (Heap.get?_push_of_some _ e))
 have hT₈:IsPair h₈ h₅.objs.size x y:=hs₈.extBut _ _ (Nat.ne_of_gt hzlt) (hs₇.extBut _ _ (Nat.ne_of_gt hzlt) (Heap.get?_push_size _ rfl))
 have hz8:h₈.objs.size=h₅.objs.size+1:=by rw [hs₈.1,hs₇.1,Heap.size_push]
 rw [hsz] at hz₈ hT₈ hz8
 refine wpAny_pure ⟨_,rfl,?_⟩
 show Q (.ref h₅.objs.size) _
 rw [hsz]
 exact hQ x y h₈ _ hx hy hz₈ (up _ _ D.TOz hTO₅) (D1.frame _ _ _ h1₅ λ c hc o e=>up c o (D.z1 c hc).1 e) (D2.frame _ _ _ h2₅ λ c hc o e=>up c o (D.z2 c hc).1 e) hT₈ hz8 λ c o c1 c2 c3 c4 e=>up c o c1 (hk₅ c o c1 c2 c3 c4 e)
theorem Amd {Q:PySem.Fin->Shared->Prop}(D:ZApart z TI TO i1 i2 f1 f2) (D1:Draws prog w A i1 f1 n1 P1 S1) (D2:Draws prog w A i2 f2 n2 P2 S2) (hz:IsZip s.heap z TI TO .none) (hTI:IsPair s.heap TI (.ref i1) (.ref i2)) (hTO:IsPair s.heap TO a b)
  (h1:S1 k1 s.heap) (h2:S2 k2 s.heap) (hend:k1=n1\/(k1<n1/\k2=n2))
  (hE:∀ h' tk e,(∀ c o,c≠z->c≠TO->c≠i1->c≠i2->s.heap.get? c=some o->h'.get? c=some o)->(∃ o,h'.get? e=some o/\o.cls=.type "StopIteration")->E (.ref e) { s with heap:=h',toks:=tk }) :
  wpAny (model prog w) A (Builtin.«zip.__next__» ⟨[.ref z],[]⟩) Q E s:=by
 show wpAny _ _ (field (.ref z) 2 >>= _) _ _ _
 refine wpAny_bind (wpAny_field hz rfl (x:=.bool false) rfl ?_)
 show wpAny _ _ (field (.ref z) 3 >>= _) _ _ _
 refine wpAny_bind (wpAny_field hz rfl (x:=.ref TI) rfl ?_)
 refine wpAny_bind (wpAny_seqItems hTI rfl ?_)
 show wpAny _ _ (Builtin.SmallTypes.ownedTupleIsFree (.ref z) >>= _) _ _ _
 refine wpAny_bind ?_
 unfold Builtin.SmallTypes.ownedTupleIsFree
 refine wpAny_bind (wpAny_field hz rfl (x:=.none) rfl (wpAny_pure ?_))
 simp only [if_true]
 refine wpAny_bind (wpAny_rule ?_)
 refine wpAny_bind (wpAny_field hz rfl (x:=.ref TO) rfl ?_)
 refine wpAny_bind (wpAny_setField_rec hz (by simp) λ h₁ hz₁ hs₁=>?_)
 replace hz₁:IsZip h₁ z TI TO .ellipsis:=hz₁
 refine wpAny_bind ?_
 simp only [List.zipIdx_cons,List.zipIdx_nil,List.forIn_cons,List.forIn_nil]
 refine wpAny_bind (wpAny_bind (wpAny_onRaise ?_))
 show wpAny _ _ (Builtin.SmallTypes.nextOf (.ref i1) >>= _) _ _ _
 have h1₁:S1 k1 h₁:=D1.frame _ _ _ h1 λ c hc o e=>hs₁.extBut _ _ (D.z1 c hc).1 e
 rcases hend with rfl|⟨l1,rfl⟩
 ·refine wpAny_bind (D1.done _ _ _ h1₁ λ h₂ e hs₂ he=>?_)
  obtain⟨oe,hoe,hce⟩:=he
  have hz₂:IsZip h₂ z TI TO .ellipsis:=hs₂ _ _ D.i1z.symm hz₁
  have hez:e≠z:=λ x=>by subst x;rw [hz₂] at hoe;cases hoe;simp at hce
  refine wpAny_setField_rec hz₂ (by simp) λ h₃ _ hs₃=>hE h₃ _ e (λ c o c1 _ c3 _ x=>hs₃.extBut _ _ c1 (hs₂ _ _ c3 (hs₁.extBut _ _ c1 x))) ⟨oe,hs₃.extBut _ _ hez hoe,hce⟩
 ·refine wpAny_bind (D1.item k1 _ _ _ l1 h1₁ λ x h₂ tk₂ hx h1₂ hs₂=>wpAny_pure ?_)
  have hTO₂:IsPair h₂ TO a b:=hs₂.extBut _ _ D.TOi1 (hs₁.extBut _ _ D.TOz hTO)
  refine wpAny_bind (wpAny_seqItems hTO₂ rfl ?_)
  refine wpAny_bind (wpAny_updateSeq_pair hTO₂ λ h₃ hTO₃ hs₃=>?_)
  refine wpAny_bind (wpAny_letGo (wpAny_pure ?_))
  refine wpAny_bind (wpAny_bind (wpAny_onRaise ?_))
  show wpAny _ _ (Builtin.SmallTypes.nextOf (.ref i2) >>= _) _ _ _
  refine wpAny_bind (D2.done _ _ _ (D2.frame _ _ _ h2 λ c hc o e=>hs₃.extBut _ _ (D.z2 c hc).2.1 (hs₂.extBut _ _ (D.z2 c hc).2.2 (hs₁.extBut _ _ (D.z2 c hc).1 e))) λ h₄ e hs₄ he=>?_)
  obtain⟨oe,hoe,hce⟩:=he
  have hz₄:IsZip h₄ z TI TO .ellipsis:=hs₄ _ _ D.i2z.symm (hs₃.extBut _ _ D.TOz.symm (hs₂.extBut _ _ D.i1z.symm hz₁))
  have hez:e≠z:=λ x=>by subst x;rw [hz₄] at hoe;cases hoe;simp at hce
  refine wpAny_setField_rec hz₄ (by simp) λ h₅ _ hs₅=>hE h₅ _ e (λ c o c1 c2 c3 c4 x=>hs₅.extBut _ _ c1 (hs₄ _ _ c4 (hs₃.extBut _ _ c2 (hs₂.extBut _ _ c3 (hs₁.extBut _ _ c1 x))))) ⟨oe,hs₅.extBut _ _ hez hoe,hce⟩
end
section
variable {prog:Program}{w:World}{A:Around}{E:Value->Shared->Prop}{s:Shared}{z TI TO i1 i2:Addr}{f1 f2:List Addr}{n1 n2 k1 k2:Nat}{P1 P2:Nat->Value->Prop}{S1 S2:Nat->Heap->Prop}{a b:Value}
theorem Ap7 {Q:Option Value->Shared->Prop}(D:ZApart z TI TO i1 i2 f1 f2) (D1:Draws prog w A.in1 i1 f1 n1 P1 S1) (D2:Draws prog w A.in1 i2 f2 n2 P2 S2) (hz:IsZip s.heap z TI TO .none) (hTI:IsPair s.heap TI (.ref i1) (.ref i2)) (hTO:IsPair s.heap TO a b)
  (h1:S1 k1 s.heap) (h2:S2 k2 s.heap) (l1:k1<n1) (l2:k2<n2)
  (hQ:∀ x y h' tk,P1 k1 x->P2 k2 y->IsZip h' z TI TO (rawInt s.heap.objs.size)->IsPair h' TO x y->S1 (k1+1) h'->S2 (k2+1) h'->IsPair h' s.heap.objs.size x y->h'.objs.size=s.heap.objs.size+1 →
   (∀ c o,c≠z->c≠TO->c≠i1->c≠i2->s.heap.get? c=some o->h'.get? c=some o)->Q (some (.ref s.heap.objs.size)) { s with heap:=h',toks:=tk }):wpAny (model prog w) A (pyNext (.ref z)) Q E s:=by
 have hT:s.TypeIs (.ref z) "zip":=⟨_,hz,rfl⟩
 unfold pyNext
 exact wpAny_bind (wpAny_attempt (wpAny_callSpecial?_slot (name:=Str.ofString "__next__") hT F.slot_zip_next (wpAny_call_entry F.slot_zip_next hT F.entry_zip_next
  (Ahn D D1 D2 hz hTI hTO h1 h2 l1 l2 λ x y h' tk a0 b0 a1 a2 a3 a4 a5 a6 a7=>wpAny_pure (hQ x y h' tk a0 b0 a1 a2 a3 a4 a5 a6 a7)) (F.args_zip_next_1 _))))
theorem Ab4 {Q:Option Value->Shared->Prop}(D:ZApart z TI TO i1 i2 f1 f2) (D1:Draws prog w A.in1 i1 f1 n1 P1 S1) (D2:Draws prog w A.in1 i2 f2 n2 P2 S2) (hz:IsZip s.heap z TI TO .none) (hTI:IsPair s.heap TI (.ref i1) (.ref i2)) (hTO:IsPair s.heap TO a b)
  (h1:S1 k1 s.heap) (h2:S2 k2 s.heap) (hend:k1=n1\/(k1<n1/\k2=n2))
  (hQ:∀ h' tk,(∀ c o,c≠z->c≠TO->c≠i1->c≠i2->s.heap.get? c=some o->h'.get? c=some o)->Q none { s with heap:=h',toks:=tk }):wpAny (model prog w) A (pyNext (.ref z)) Q E s:=by
 have hT:s.TypeIs (.ref z) "zip":=⟨_,hz,rfl⟩
 unfold pyNext
 refine wpAny_bind (wpAny_attempt (wpAny_callSpecial?_slot (name:=Str.ofString "__next__") hT F.slot_zip_next (wpAny_call_entry F.slot_zip_next hT F.entry_zip_next
  (Amd D D1 D2 hz hTI hTO h1 h2 hend λ h' tk e hk he=>?_) (F.args_zip_next_1 _))))
 obtain⟨o,ho,hc⟩:=he
 refine wpAny_bind (wpAny_isInstance (T:="StopIteration") (b:=true) ⟨o,ho,hc⟩ isSubtype_stop ?_)
 exact wpAny_pure (hQ _ _ hk)
end
abbrev Ar6 (h:Heap) (l1:Addr):Heap:=h.push { cls:=.type "list_iterator",data:=.fields #[.ref l1,.int 0 0] }
abbrev Arw (h:Heap) (l1 l2:Addr):Heap:=(Ar6 h l1).push { cls:=.type "tuple_iterator",data:=.fields #[.ref l2,.int 0 0] }
abbrev Ar4 (h:Heap) (l1 l2:Addr):Heap:=(Arw h l1 l2).push { cls:=.type "tuple",data:=.seq #[.ref h.objs.size,.ref (Ar6 h l1).objs.size] }
abbrev Arx (h:Heap) (l1 l2:Addr):Heap:=(Ar4 h l1 l2).push { cls:=.type "tuple",data:=.seq #[.none,.none] }
abbrev Am7 (h:Heap) (l1 l2:Addr):Heap:=(Arx h l1 l2).push { cls:=.type "zip",data:=.fields #[.none,.bool false,.bool false,.ref (Arw h l1 l2).objs.size,.ref (Ar4 h l1 l2).objs.size] }
theorem Aca (l1 l2:Addr) (xs ys:Array Value) :
  Meets (Builtin.«zip.__new__» ⟨[.type "zip",.ref l1,.ref l2],[]⟩) (λ _ R s=>s.heap.IsList l1 xs/\s.heap.IsTuple l2 ys ∧
   R (.ok (.ret (.ref (Arx s.heap l1 l2).objs.size))) { s with heap:=Am7 s.heap l1 l2 }) :=
 .of_wp λ prog w A R s h=>by
  obtain⟨hp,g,d,tk,os⟩:=s;obtain⟨hl1,hl2,h⟩:=h
  have hsub:=sub_zip
  have hL1:Heap.IsList (Shared.heap ⟨hp,g,d,tk,os⟩) l1 xs:=hl1
  have hL2:Heap.IsTuple (Shared.heap ⟨hp.push { cls:=.type "list_iterator",data:=.fields #[.ref l1,.int 0 0] },g,d,tk,os⟩) l2 ys:=Heap.IsTuple.push hl2 _
  wp_walk using wpAny_pyIter_list hL1,wpAny_pyIter_tuple hL2
  exact⟨_,rfl,h⟩
section
variable {prog:Program}{w:World}{A:Around}{E:Value->Shared->Prop}{s:Shared}
theorem Ae0 {l1 l2:Addr}{xs ys:Array Value}{Q:Value->Shared->Prop}(hl1:s.heap.IsList l1 xs) (hl2:s.heap.IsTuple l2 ys)
  (h:∀ h',IsZip h' (s.heap.objs.size+4) (s.heap.objs.size+2) (s.heap.objs.size+3) .none->IsPair h' (s.heap.objs.size+2) (.ref s.heap.objs.size) (.ref (s.heap.objs.size+1)) →
   IsPair h' (s.heap.objs.size+3) .none .none->h'.IsListIter s.heap.objs.size l1 0->h'.IsTupleIter (s.heap.objs.size+1) l2 0 →
   (∀ c o,s.heap.get? c=some o->h'.get? c=some o)->Q (.ref (s.heap.objs.size+4)) { s with heap:=h' }):wpAny (model prog w) A (call (.type "zip") [.ref l1,.ref l2]) Q E s:=by
 refine callType_new F.called_zip (by decide) (F.typeCall_zip_2 _ _) (F.newCall_zip_2 _ _) (λ obj=>F.args_object_init_3 obj _ _) F.entry_zip_new (Aca l1 l2 xs ys) ⟨hl1,hl2,?_⟩
 have z1:(Ar6 s.heap l1).objs.size=s.heap.objs.size+1:=Heap.size_push ..
 have z2:(Arw s.heap l1 l2).objs.size=s.heap.objs.size+2:=by rw [Heap.size_push,z1]
 have z3:(Ar4 s.heap l1 l2).objs.size=s.heap.objs.size+3:=by rw [Heap.size_push,z2]
 have z4:(Arx s.heap l1 l2).objs.size=s.heap.objs.size+4:=by rw [Heap.size_push,z3]
 have g5:(Am7 s.heap l1 l2).get? (Arx s.heap l1 l2).objs.size=some _:=Heap.get?_push_size _ rfl
 have g4:(Am7 s.heap l1 l2).get? (Ar4 s.heap l1 l2).objs.size=some _:=Heap.get?_push_of_some _ (Heap.get?_push_size _ rfl)
 have g3:(Am7 s.heap l1 l2).get? (Arw s.heap l1 l2).objs.size=some _:=Heap.get?_push_of_some _ (Heap.get?_push_of_some _ (Heap.get?_push_size _ rfl))
 have g2:(Am7 s.heap l1 l2).get? (Ar6 s.heap l1).objs.size=some _:=Heap.get?_push_of_some _ (Heap.get?_push_of_some _ (Heap.get?_push_of_some _ (Heap.get?_push_size _ rfl)))
 have g1:(Am7 s.heap l1 l2).get? s.heap.objs.size=some _:=Heap.get?_push_of_some _ (Heap.get?_push_of_some _ (Heap.get?_push_of_some _ (Heap.get?_push_of_some _ (Heap.get?_push_size _ rfl))))
 show _/\_
 rw [z2,z3,z4] at g5
 rw [z1,z2] at g3
 rw [z3] at g4
 rw [z1] at g2
 rw [z4]
 exact⟨⟨_,g5,rfl⟩,h _ g5 g3 g4 ⟨_,g1,rfl,rfl⟩ ⟨_,g2,rfl,rfl⟩ λ c o x =>
  Heap.get?_push_of_some _ (Heap.get?_push_of_some _ (Heap.get?_push_of_some _ (Heap.get?_push_of_some _ (Heap.get?_push_of_some _ x))))⟩
end
noncomputable def Au0 (K:PySem.W.Frag) (a b:Addr):It :=
 ⟨λ i H=>∃ xs ys x y,SqL K H a xs/\SqT K H b ys/\xs[i]?=some x/\ys[i]?=some y,
  λ i H v H'=>∃ T x y,v=.ref T/\H T=none/\H'=upd H T (.tup [x,y])/\(∀ xs,SqL K H a xs->xs[i]?=some x)/\∀ ys,SqT K H b ys->ys[i]?=some y,
  λ i H=>∃ xs ys,SqL K H a xs/\SqT K H b ys/\i=min xs.length ys.length⟩
theorem Acx {P:Program}{w:World}{K:PySem.W.Frag}{elts:List Expr}{k:Nat}{pos:Pos}(a b z TI TO i1 i2:Addr) (D:ZApart z TI TO i1 i2 [i1,a] [i2,b]) (hai:a≠i1) (hbi:b≠i2) :
  Turn P w K (.Tuple elts k pos) (Au0 K a b) [z,TI,TO,i1,i2] z (λ i h=>IsZip h z TI TO .none/\IsPair h TI (.ref i1) (.ref i2)/\(∃ u v,IsPair h TO u v)/\h.IsListIter i1 a i/\h.IsTupleIter i2 b i) where
 mem:=by simp
 obj:=λ i h st c hc=>by
  obtain⟨h1,h2,⟨u,v,h3⟩,⟨o4,e4,c4,d4⟩,⟨o5,e5,c5,d5⟩⟩:=st
  simp only [List.mem_cons,List.not_mem_nil,or_false] at hc
  rcases hc with rfl|rfl|rfl|rfl|rfl
  ·exact⟨_,h1,λ v z=>nomatch z⟩
  ·exact⟨_,h2,λ v z=>nomatch z⟩
  ·exact⟨_,h3,λ v z=>nomatch z⟩
  ·exact⟨_,e4,λ v z=>by rw [d4] at z;cases z⟩
  ·exact⟨_,e5,λ v z=>by rw [d5] at z;cases z⟩
 keep:=λ i h h' st k=>by
  obtain⟨h1,h2,⟨u,v,h3⟩,h4,⟨o5,e5,r5⟩⟩:=st
  exact⟨k z (by simp) _ h1,k TI (by simp) _ h2,⟨u,v,k TO (by simp) _ h3⟩,h4.at λ o e=>k i1 (by simp) o e,⟨o5,k i2 (by simp) _ e5,r5⟩⟩
 item:=by
  intro X hP hw hK hc i pins s σ H E I hf st hg
  subst hP hw hK
  obtain⟨xs,ys,x,y,hq1,hq2,hx,hy⟩:=hg
  obtain⟨its1,rv1,p1,hz1⟩:=I.list hq1
  obtain⟨its2,rv2,p2,hz2⟩:=I.tuple hq2
  obtain⟨u1,hu1,ru1⟩:=rv1.get hx
  obtain⟨u2,hu2,ru2⟩:=rv2.get hy
  obtain⟨h1,h2,⟨ua,va,h3⟩,h4,h5⟩:=st
  have l1:i<its1.length:=(List.getElem?_eq_some_iff.mp hu1).1
  have l2:i<its2.length:=(List.getElem?_eq_some_iff.mp hu2).1
  have D1:=Draws.list (prog:=X.prog) (w:=X.w) (A:=X.A.in1) (I.ok.hd hc) i1 a hai its1.toArray
  have D2:=Wc (prog:=X.prog) (w:=X.w) (A:=X.A.in1) (I.ok.hd hc) i2 b hbi its2.toArray
  refine Ap7 (k1:=i) (k2:=i) D D1 D2 h1 h2 h3 ⟨h4,p1.isList⟩ ⟨h5,p2⟩ (by simpa using l1) (by simpa using l2) λ v1 v2 h' tk e1 e2 g1 g2 g3 g4 g5 g6 hk=>?_
  have e1':v1=u1:=by
   have:its1[i]?=some v1:=by simpa using e1
   rw [hu1] at this;exact (Option.some.inj this).symm
  have e2':v2=u2:=by
   have:its2[i]?=some v2:=by simpa using e2
   rw [hu2] at this;exact (Option.some.inj this).symm
  subst e1' e2'
  refine⟨_,rfl,?_⟩
  refine wpAny_letOwnedTupleGo_zip g1 λ h'' gz hs''=>?_
  have hlt:∀ c∈[z,TI,TO,i1,i2],c<s.heap.objs.size:=λ c hc=>by
   obtain⟨o4,e4,_⟩:=h4
   obtain⟨o5,e5,_⟩:=h5
   simp only [List.mem_cons,List.not_mem_nil,or_false] at hc
   rcases hc with rfl|rfl|rfl|rfl|rfl
   ·exact Heap.lt_size h1
   ·exact Heap.lt_size h2
   ·exact Heap.lt_size h3
   ·exact Heap.lt_size e4
   ·exact Heap.lt_size e5
  have nT:H s.heap.objs.size=none:=I.hok.fresh (Nat.le_refl _)
  have nz:∀ c∈[z,TI,TO,i1,i2],s.heap.objs.size≠c:=λ c hc=>Nat.ne_of_gt (hlt c hc)
  have up:∀ c o,c∉[z,TI,TO,i1,i2]->s.heap.get? c=some o->h''.get? c=some o:=λ c o hc e=>by
   simp only [List.mem_cons,List.not_mem_nil,or_false,not_or] at hc
   exact hs''.extBut _ _ hc.1 (hk c o hc.1 hc.2.2.1 hc.2.2.2.1 hc.2.2.2.2 e)
  have I':Inv X pins σ (upd H s.heap.objs.size (.tup [x,y])) { s with heap:=h'',toks:=tk }:=Tw I hf up (Nat.le_refl _)
   ⟨by rw [sizeLine_eq];simp,[v1,v2],.cons ru1 (.cons ru2 .nil),_,hs''.extBut _ _ (nz z (by simp)) g5,rfl,_,rfl⟩
  refine⟨.ref s.heap.objs.size,_,I',rfl,⟨_,x,y,rfl,nT,rfl,λ zs hz=>by rw [I.list_inj hz hq1];exact hx,λ zs hz=>by rw [I.tuple_inj hz hq2];exact hy⟩,⟨gz,hs''.extBut _ _ D.TIz (hk _ _ D.TIz D.TITO D.TIi1 D.TIi2 h2),⟨_,_,hs''.extBut _ _ D.TOz g2⟩,g3.1.extBut hs''.extBut D.i1z,g4.1.extBut hs''.extBut D.i2z⟩,λ c hc=>?_⟩
  rw [Al (Ne.symm (nz c hc))]
  exact (hf c hc).1
 done:=by
  intro X hP hw hK hc i pins s σ H E I hf st hg
  subst hP hw hK
  obtain⟨xs,ys,hq1,hq2,hi⟩:=hg
  obtain⟨its1,rv1,p1,hz1⟩:=I.list hq1
  obtain⟨its2,rv2,p2,hz2⟩:=I.tuple hq2
  obtain⟨h1,h2,⟨ua,va,h3⟩,h4,h5⟩:=st
  have D1:=Draws.list (prog:=X.prog) (w:=X.w) (A:=X.A.in1) (I.ok.hd hc) i1 a hai its1.toArray
  have D2:=Wc (prog:=X.prog) (w:=X.w) (A:=X.A.in1) (I.ok.hd hc) i2 b hbi its2.toArray
  have z1:its1.toArray.size=xs.length:=by rw [List.size_toArray,rv1.length]
  have z2:its2.toArray.size=ys.length:=by rw [List.size_toArray,rv2.length]
  refine Ab4 (k1:=i) (k2:=i) D D1 D2 h1 h2 h3 ⟨h4,p1.isList⟩ ⟨h5,p2⟩ (by rw [z1,z2];omega) λ h' tk hk=>⟨rfl,?_⟩
  have nit:∀ b u,H b=some u->b∉[z,TI,TO,i1,i2]:=λ b u e q=>by rw [(hf b q).1] at e;cases e
  have k:∀ b o,b∉[z,TI,TO,i1,i2]->s.heap.get? b=some o->h'.get? b=some o:=λ c o hc e=>by
   simp only [List.mem_cons,List.not_mem_nil,or_false,not_or] at hc
   exact hk c o hc.1 hc.2.2.1 hc.2.2.2.1 hc.2.2.2.2 e
  refine I.step (g':=s.gens) (d':=s.drawn) (ch:=[z,TI,TO,i1,i2]) (λ b hb=>?_) (λ b o _ _ hc e _=>k b o hc e) (λ b o _ _ hc e _=>⟨o.slots,k b o hc e⟩) (λ b ob _ e n=>n)
   (λ b o hc e=>⟨o,k b o hc e⟩) (λ b xs e=>e) (λ b u xs e=>e) (λ b ps e=>⟨#[],by rw [e];simp⟩) (λ m hm=>?_) (λ b u e=>?_) I.bare
  ·obtain⟨_,q1,q2,q3,q4,q5⟩:=hf b hb
   exact⟨q3,q1,q4,q5⟩
  ·obtain⟨ob,es,ep,ho,r⟩:=hm
   exact⟨ob,es,ep,k _ ob (λ z=>(hf _ z).2.1 rfl) ho,r⟩
  ·refine (I.hok b u e).stay (λ c v hc q=>k c v ?_ q) (λ c q=>q) λ c xs q=>q
   rcases hc with z|z
   ·rw [z];exact nit b u e
   ·exact nit c _ z
 self:=λ _ _ _ _ _ st h=>wpAny_pyIter_zip st.1 h
noncomputable def signs (w:Int):Option (List Str):=if w=0 then some ["<",">"] else if w=1 then some ["^","v"] else none
structure Sgn (K:PySem.W.Frag) (mg:Str->Option Value):Prop where
 ex:∃ a a0 a1,mg "SIGNS"=some (.ref a)/\(∀ H,SqT K H a [.ref a0,.ref a1])/\(∀ H,SqT K H a0 [.str "<",.str ">"])/\∀ H,SqT K H a1 [.str "^",.str "v"]
theorem Agg {K:PySem.W.Frag}{h:Heap}{mg:Str->Option Value}(KX:K.In h) (GX:h.Ns mainGlobals mg) {a a0 a1:Addr}{d d0 d1:Option Addr}{n m0 m1:Nat}{sl sl0 sl1:Array (Option Value)}{t0 t1 t2 t3:Tok}(h1:PySem.W.nsIn K mainGlobals "SIGNS"=some (some (.ref a)))
  (h2:K.lookup a=some ⟨.type "tuple",d,.seq #[.ref a0,.ref a1] n,sl⟩) (h3:K.lookup a0=some ⟨.type "tuple",d0,.seq #[.str "<" t0,.str ">" t1] m0,sl0⟩) (h4:K.lookup a1=some ⟨.type "tuple",d1,.seq #[.str "^" t2,.str "v" t3] m1,sl1⟩):Sgn K mg :=
 ⟨a,a0,a1,PySem.W.mg_of KX GX h1,λ H=>.inr ⟨_,_,_,h2,rfl,rfl,by show 2<=2 ^ 24;decide,.cons rfl (.cons rfl .nil)⟩,λ H=>.inr ⟨_,_,_,h3,rfl,rfl,by show 2<=2 ^ 24;decide,.cons ⟨t0,rfl⟩ (.cons ⟨t1,rfl⟩ .nil)⟩,λ H=>.inr ⟨_,_,_,h4,rfl,rfl,by show 2<=2 ^ 24;decide,.cons ⟨t2,rfl⟩ (.cons ⟨t3,rfl⟩ .nil)⟩⟩
section
variable {X:Cx}{G:Fc}{a e:Expr}{ma m:EV}{p p1 p2 pos tpos:Pos}{elts:List Expr}{tk:Nat}
noncomputable def At9 (K:PySem.W.Frag) (ta:TA):TI:=λ σ H Rr=>ta σ H λ vs H1=>∃ a b,vs=[.ref a,.ref b]/\(∃ xs,SqL K H1 a xs)/\(∃ ys,SqT K H1 b ys)/\Rr (Au0 K a b) H1
theorem Amy {b:Expr}{ta:TA}(hg:Gl X "zip") (hm:X.mg "zip"=none) (ha:PA X [a,b] ta) (hs:starEach [a,b] X.env=[(false,eval a X.env),(false,eval b X.env)]:=by rfl) (hs2:starEach [b] X.env=[(false,eval b X.env)]:=by rfl) :
  PI X (.Tuple elts tk tpos) (.Call (.Name "zip" p) [a,b] [] pos) (At9 X.K ta):=by
 intro pins s σ H Rr I h
 refine Call_ (Qf I hg hm boot_zip (PyProof.Rows.callWith_type1 (thn (ha pos pins s σ H _ I h) λ us s1 ⟨vs,H1,I1,r1,q1⟩=>?_) (by rw [hs,hs2]) (by rw [hs2];rfl)))
 obtain⟨l1,l2,e,⟨xs,hx⟩,⟨ys,hy⟩,q⟩:=q1
 subst e
 obtain⟨u1,u2,rfl,ru1,ru2⟩:=vals2 r1
 cases ru1
 cases ru2
 obtain⟨its1,rv1,p1,hz1⟩:=I1.list hx
 obtain⟨its2,rv2,p2,hz2⟩:=I1.tuple hy
 have hlt1:l1<s1.heap.objs.size:=by obtain⟨o,e,_⟩:=p1.isList;exact Heap.lt_size e
 have hlt2:l2<s1.heap.objs.size:=by obtain⟨o,e,_⟩:=p2;exact Heap.lt_size e
 refine Ae0 p1.isList p2 λ h' hz hTI hTO hi1 hi2 hk=>?_
 refine wpAny_pyIter_zip hz ?_
 have n1:∀ k,l1≠s1.heap.objs.size+k:=λ k=>Nat.ne_of_lt (Nat.lt_of_lt_of_le hlt1 (Nat.le_add_right _ _))
 have n2:∀ k,l2≠s1.heap.objs.size+k:=λ k=>Nat.ne_of_lt (Nat.lt_of_lt_of_le hlt2 (Nat.le_add_right _ _))
 have nn:∀ {j k:Nat},j≠k->s1.heap.objs.size+j≠s1.heap.objs.size+k:=λ h z=>h (Nat.add_left_cancel z)
 have D:ZApart (s1.heap.objs.size+4) (s1.heap.objs.size+2) (s1.heap.objs.size+3) (s1.heap.objs.size+0) (s1.heap.objs.size+1) [s1.heap.objs.size+0,l1] [s1.heap.objs.size+1,l2] :=
  ⟨nn (by decide),nn (by decide),nn (by decide),nn (by decide),nn (by decide),nn (by decide),nn (by decide),nn (by decide),nn (by decide),nn (by decide),λ b hb=>by
   rcases List.mem_cons.mp hb with rfl|hb
   ·exact⟨nn (by decide),nn (by decide),nn (by decide)⟩
   ·rw [List.mem_singleton.mp hb];exact⟨n1 _,n1 _,n1 _⟩,λ b hb=>by
   rcases List.mem_cons.mp hb with rfl|hb
   ·exact⟨nn (by decide),nn (by decide),nn (by decide)⟩
   ·rw [List.mem_singleton.mp hb];exact⟨n2 _,n2 _,n2 _⟩⟩
 refine⟨_,[s1.heap.objs.size+4,s1.heap.objs.size+2,s1.heap.objs.size+3,s1.heap.objs.size+0,s1.heap.objs.size+1],_,_,H1,rfl,I1.kept (t':=s1.toks) hk,Acx l1 l2 _ _ _ _ _ D (n1 0) (n2 1),⟨hz,hTI,⟨_,_,hTO⟩,hi1,hi2⟩,λ c hc=>?_,q⟩
 have hge:s1.heap.objs.size<=c:=by
  simp only [List.mem_cons,List.not_mem_nil,or_false] at hc
  rcases hc with rfl|rfl|rfl|rfl|rfl<;>exact Nat.le_add_right _ _
 exact I1.fpOk hge (I1.hok.fresh hge)
theorem Anm {K:PySem.W.Frag}{w:Int}{zs:List Str}{a0 a1:Addr}(h:signs w=some zs) (h0:∀ H,SqT K H a0 [.str "<",.str ">"]) (h1:∀ H,SqT K H a1 [.str "^",.str "v"]):∃ b,atI [V.ref a0,V.ref a1] w=some (.ref b)/\∀ H,SqT K H b (zs.map V.str):=by
 unfold signs at h
 split at h
 ·rename_i e;subst e;cases h;exact⟨a0,rfl,h0⟩
 ·split at h
  ·rename_i e;subst e;cases h;exact⟨a1,rfl,h1⟩
  ·cases h
noncomputable def iZs (ma m:EV):Ev->R (List D):=λ E=>ma E >>= λ x=>m E >>= λ y=>match x,y with
 | .lst xs,.int w=>match signs w with
  | some zs=>.ok (List.zipWith (λ a b=>D.tup [a,.str b]) xs zs)
  | none=>.no
 | _,_=>.no
theorem Ak8 (SA:Sgn X.K X.mg) (hg:Gl X "zip") (hm:X.mg "zip"=none) (hgs:Gl X "SIGNS") (ha:SF X G a ma) (he:SE X G e m) (hp:Tr e:=by exact λ _ _=>rfl) (hs:starEach [a,.Subscript (.Name "SIGNS" p1) e p2] X.env=[(false,eval a X.env),(false,eval (.Subscript (.Name "SIGNS" p1) e p2) X.env)]:=by rfl) (hs2:starEach [.Subscript (.Name "SIGNS" p1) e p2] X.env=[(false,eval (.Subscript (.Name "SIGNS" p1) e p2) X.env)]:=by rfl) :
  SI X G (.Tuple elts tk tpos) (.Call (.Name "zip" p) [a,.Subscript (.Name "SIGNS" p1) e p2] [] pos) (iZs ma m):=by
 obtain⟨aS,a0,a1,h1,h2,h3,h4⟩:=SA.ex
 refine (Amy hg hm (Ak ha (Ak (Af0 W2 (Ms (v:=V.ref aS) hgs h1 rfl) he hp) Bl hs2) (by rw [hs,hs2])) hs hs2).imp ?_
 rintro σ H Q ⟨E,hr,f⟩
 refine⟨E,hr,(Fin.bind f).mono λ d p v H1 s1 z=>⟨E,hr.same s1,(Fin.bind p).mono λ dw p w H2 s2 y=>?_⟩⟩
 cases d with
 | lst xs =>
  cases dw with
  | int wv =>
   dsimp only at p
   cases hz:signs wv with
   | none=>rw [hz] at p;exact p.elim
   | some zs =>
    rw [hz] at p
    obtain⟨b,e1,e2⟩:=Anm hz h3 h4
    have z:=z.mono s2 λ _ q=>q
    unfold Rp at z
    obtain⟨l1,vs,rfl,no1,hl1,r1⟩:=z
    refine⟨aS,[.ref a0,.ref a1],wv,.ref b,rfl,y.int,h2 H2,e1,l1,b,rfl,⟨vs,SqL.of hl1⟩,⟨_,e2 H2⟩,p _ H2 (s1.trans s2) λ G' E' σ' H' le r'=>?_⟩
    have h1':=(locked le r' _ _ no1 hl1).1
    refine⟨⟨vs,zs.map V.str,SqL.of h1',e2 _,by rw [List.length_zipWith,r1.length,List.length_map]⟩,λ i d hd=>?_⟩
    have hd':∃ dx c,xs[i]?=some dx/\zs[i]?=some c/\d=.tup [dx,.str c]:=by
     rw [List.getElem?_zipWith] at hd
     cases e3:xs[i]? with
     | none=>rw [e3] at hd;simp at hd
     | some dx =>
      cases e4:zs[i]? with
      | none=>rw [e3,e4] at hd;simp at hd
      | some dy=>rw [e3,e4] at hd;simp at hd;exact⟨dx,dy,rfl,rfl,hd.symm⟩
    obtain⟨dx,c,e3,e4,rfl⟩:=hd'
    obtain⟨vx,hvx,px⟩:=r1.get e3
    have hvy:(zs.map V.str)[i]?=some (.str c):=by rw [List.getElem?_map,e4];rfl
    refine⟨⟨vs,_,vx,.str c,SqL.of h1',e2 _,hvx,hvy⟩,?_⟩
    rintro x H'' ⟨T,ux,uy,ex,nT,eH,q1,q2⟩
    subst ex eH
    have b1:=q1 vs (SqL.of h1')
    have b2:=q2 _ (e2 _)
    rw [hvx] at b1;cases b1
    rw [hvy] at b2;cases b2
    refine⟨Av nT,?_⟩
    unfold Rp
    refine⟨T,[vx,.str c],rfl,r'.fresh nT,Aj,Rps.cons ?_ (Rps.cons (by unfold Rp;rfl) Rps.nil)⟩
    exact (px.move (locked le r')).mono (Av nT) λ _ q=>q
  | _=>exact p.elim
 | _=>exact p.elim
theorem Ams {x:Str}{z:Str}(h:∃ t,X.mg x=some (.str z t)) (hg:Gl X x) (hd:(x == ("__debug__":Str))=false:=by decide):SF X G (.Name x pos) (kE (.str z)):=by
 obtain⟨t,h⟩:=h
 exact (Ms (v:=V.str z) hg h ⟨t,rfl⟩ hd).imp λ σ H Q z0=>z0.elim λ E z0=>z0.elim λ r f=>f _ H (Same.refl _) rfl
end
noncomputable def Axk (i j:Nat):EX:=λ E=>match E[i]?,E[j]? with
 | some (.ow (.lst xs)),some (.ow (.lst ys))=>.ok (.rt (.tup [.lst xs,.lst ys]))
 | _,_=>.no
section
variable {X:Cx}{G:Fc}{st:Stmt}{rest:List Stmt}{m n:EX}{pos tpos:Pos}
end
noncomputable def spU (K:PySem.W.Frag) (n:Nat) (den:List D->R D):Sp:=λ vs H Q _=>vs.length=n/\∃ (pr:Addr->Prop) (ds:List D),(∀ a,pr a->∃ o,H a=some o/\Kr o)/\Rps K H pr ds vs/\Fin (den ds) (λ d=>∀ t a b H' xs ys,d=.tup [.lst xs,.lst ys]->Same H H'->H a=none->H b=none->a≠b->H' t=some (.tup [.ref a,.ref b])->Own K H' (or2 pr a b) (.lst xs) a->Own K H' (or2 pr a b) (.lst ys) b->Q (.ref t) H') λ _=>False
structure CalU (P:Program) (w:World) (K:PySem.W.Frag) (mg:Str->Option Value) (base:Heap) (x:Str) (ps:List Str) (k:Nat) (dn:List D->R D):Prop where
 ex:∃ (f:Addr) (fd:FuncData),mg x=some (.ref f)/\PySem.W.keepIn K (.ref f)=true/\Binds K fd ps []/\FnOk P w K mg base CX0 k f fd ps (spU K ps.length dn)
section
variable {P:Program}{w:World}{K:PySem.W.Frag}{mg:Str->Option Value}{base:Heap}{x qual:Str}{st:Stmt}{f:Addr}{fd:FuncData}{N ps:List Str}{k:Nat}{m:EX}
end
end M
namespace M
open PySem PySem.Spec PyProof.Rows L2
noncomputable def Aze (i:Nat) (mt:EV) (dnR:List D->R D) (m1 m2:EV) (dnG:List D->R D) (m3 m4:EV):EX:=λ E=>mt E >>= λ t=>dnR [t] >>= λ d=>match d with
 | .tup [.lst xs,.lst ys]=>if xs.length<=1000/\ys.length<=1000/\i<E.length then (m1 (E.set i .un) >>= λ d1=>m2 (E.set i .un) >>= λ d2=>dnG [.tup [.lst xs,.lst ys],d1,d2] >>= λ g=>match g with
  | .bl true=>m3 (E.set i .un) >>= λ _=>m4 (E.set i .un) >>= λ _=>.ok (.nx (E.set i .un))
  | .bl false=>.ok (.rt (.bl false))
  | _=>.no) else .no
 | _=>.no
section
variable {X:Cx}{G:Fc}
end
end M
namespace M
open PySem PySem.Spec PyProof.Rows L2
theorem str_ex {K:PySem.W.Frag}{h:Heap}{x z:Str}{t:Tok}(_:K.In h) (a:PySem.W.nsIn K mainGlobals x=some (some (.str z t))):∃ t,PySem.W.nsIn K mainGlobals x=some (some (.str z t)):=⟨t,a⟩
end M
namespace M
open PySem PySem.W PySem.Spec PyProof.Rows L2
section
variable {X:Cx}{a:Addr}{i:Nat}{e e' e'':Expr}{b b' b'':Bool}{pos:Pos}
end
section
variable {X:Cx}{G:Fc}
noncomputable def Aza:D->Option Int->Option Int->Option D
 | .str z,lo,hi=>if z.length<=1000000 then some (.str (Txt.slice z lo hi)) else none
 | _,_,_=>none
end
end M
namespace M
theorem Au2 {α:Type}{us:List α}(h:us.length=5):∃ a b c d e,us=[a,b,c,d,e]:=by
 cases us with
 | nil=>cases h
 | cons a us=>obtain⟨b,c,d,e,f⟩:=Avq (Nat.succ.inj h);exact⟨a,b,c,d,e,by rw [f]⟩
end M
namespace M
open PySem PySem.W PySem.Spec PyProof.Rows L2 PySem.Calls PySem.SeqAt
theorem Link.mono {X:Cx}{G G':Fc}(lk:Link X G) (hx:G'.xc=G.xc) (hs:Same G.h0 G'.h0):Link X G' where
 made:=λ I sm hm hc h=>lk.made I (hs.trans sm) hm (by rw [<-hx];exact hc) h
 flew:=λ I sm hm hc F=>lk.flew I (hs.trans sm) hm (by rw [<-hx];exact hc) F
noncomputable def dT (cf bo:List D->R D):List D->R D:=λ ds=>match ds with
 | [f,n]=>match cf [f] with
  | .ok _=>Ac6 (Qy cf) bo [f,n]
  | .er c=>.er c
  | .no=>.no
 | _=>.no
noncomputable def dN (cl bo:List D->R D):List D->R D:=λ ds=>match ds with
 | [f,g]=>match cl [f,g] with
  | .ok _=>Qy (Aob (Qy cl) bo) [f,g]
  | .er c=>.er c
  | .no=>.no
 | _=>.no
noncomputable def Am5 (m0 m1 mr:EX) (hd:Nat->Option D):EX:=λ E=>match m0 E with
 | .ok (.nx E1)=>(match m1 E1 with
  | .ok (.nx E2)=>mr E2
  | .er c=>(match hd c with|some d=>.ok (.rt d)|none=>.no)
  | _=>.no)
 | .er c=>(match hd c with|some d=>.ok (.rt d)|none=>.no)
 | _=>.no
theorem Apm {P:Program}{w:World}{K:PySem.W.Frag}{mg:Str->Option Value}{base:Heap}{x qual:Str}{st:Stmt}{f:Addr}{fd:FuncData}{N ps:List Str}{k:Nat}{m:EX}(F:Fun K x qual st f fd) (S:FnScope N ps (Ah st))
  (hb:∀ (cdv:Value) (A:Around) (outer:List Env) (s:Shared) (H:Hp) (E:XK),Room k (bxE P w K mg base N qual (Ah st) f cdv A outer s H E).A->Gd (bxE P w K mg base N qual (Ah st) f cdv A outer s H E).nox->Gd (bxE P w K mg base N qual (Ah st) f cdv A outer s H E)->∀ G:Fc,Link (bxE P w K mg base N qual (Ah st) f cdv A outer s H E) G->SB (bxE P w K mg base N qual (Ah st) f cdv A outer s H E) G (Gb st) m) :
  FnOk P w K mg base (CXE P w) (k+1) f fd ps (spE K mg ps.length (den N.length m)) :=
 Dl F S λ cdv A outer s H E hr gd G lk=>hb cdv A outer s H E hr gd ⟨gd.calm,PassesOwn.leaving (Q₁:=λ e s''=>CXE P w outer H s E e s'') (E₁:=λ e s''=>CXE P w outer H s E e s''),gd.nd,gd.un⟩ G lk
theorem Aop {P:Program}{w:World}{K:PySem.W.Frag}{mg:Str->Option Value}{base:Heap}{f:Addr}{fd:FuncData}{ps:List Str}{k:Nat}{d d1 d2:List D->R D}(F1:FnOk P w K mg base (CXE P w) k f fd ps (spE K mg ps.length d1)) (F2:FnOk P w K mg base (CXE P w) k f fd ps (spE K mg ps.length d2))
  (h:∀ ds (p:D->Prop) (z:Nat->Prop),Fin (d ds) p z->Fin (d1 ds) p z\/Fin (d2 ds) p z):FnOk P w K mg base (CXE P w) k f fd ps (spE K mg ps.length d) :=
 ⟨λ _ _ _ _ z=>z.1,λ A outer s H args us vs Q E hr e0 hb r ⟨hl,pr,ds,hp,rs,fn⟩=>(h ds _ _ fn).elim (λ y=>F1.run A outer s H args us vs Q E hr e0 hb r ⟨hl,pr,ds,hp,rs,y⟩) λ y=>F2.run A outer s H args us vs Q E hr e0 hb r ⟨hl,pr,ds,hp,rs,y⟩⟩
theorem Asp {P:Program}{w:World}{K:PySem.W.Frag}{mg:Str->Option Value}{base:Heap}{f:Addr}{fd:FuncData}{ps:List Str}{k:Nat}{d:List D->R D}(F:FnOk P w K mg base CX0 k f fd ps (spD K ps.length d)):FnOk P w K mg base (CXE P w) k f fd ps (spE K mg ps.length (Qy d)) :=
 ⟨λ _ _ _ _ z=>z.1,λ A outer s H args us vs Q E hr e0 hb r ⟨hl,pr,ds,hp,rs,fn⟩=>codeAny_mono (F.run A outer s H args us vs Q E hr e0 hb r ⟨hl,pr,ds,hp,rs,Lr fn⟩) λ r s' q=>by
  rcases r with e|fl
  ·exact False.elim q
  ·rcases fl with _|_|_|u
   all_goals exact q⟩
theorem At3 {cf bo d2:List D->R D}(h:∀ f n c,cf [f]=.er c->d2 [f,n]=.er c) (ds:List D) (p:D->Prop) (z:Nat->Prop) (fn:Fin (dT cf bo ds) p z):Fin (Ac6 (Qy cf) bo ds) p z\/Fin (d2 ds) p z:=by
 unfold dT at fn
 split at fn
 ·rename_i f n
  cases e:cf [f] with
  | ok d=>rw [e] at fn;exact .inl fn
  | er c=>rw [e] at fn;refine .inr ?_;rw [h f n c e];exact fn
  | no=>rw [e] at fn;exact fn.elim
 ·exact fn.elim
theorem Auf {cl bo d2:List D->R D}(h:∀ f g c,cl [f,g]=.er c->d2 [f,g]=.er c) (ds:List D) (p:D->Prop) (z:Nat->Prop) (fn:Fin (dN cl bo ds) p z):Fin (Qy (Aob (Qy cl) bo) ds) p z\/Fin (d2 ds) p z:=by
 unfold dN at fn
 split at fn
 ·rename_i f g
  cases e:cl [f,g] with
  | ok d=>rw [e] at fn;exact .inl fn
  | er c=>rw [e] at fn;refine .inr ?_;rw [h f g c e];exact fn
  | no=>rw [e] at fn;exact fn.elim
 ·exact fn.elim
theorem Xd:∀ {bs:List Bool}{us:List Value},Vals (bs.map V.bl) us->us=bs.map Value.bool
 | [],_,.nil=>rfl
 | b :: bs,_,.cons e r=>by cases e;rw [Xd r];rfl
theorem Aiw {bs:List Bool}{k:Bool}{A:Around}{s:Shared}:∀ y,y∈bs.map Value.bool->EqAt A s y (.bool k) (isBoolOf k y):=λ y hy=>by
 obtain⟨b,_,rfl⟩:=List.mem_map.mp hy
 exact EqAt.bool_bool b k
section
variable {X:Cx}
def Ajc (K:PySem.W.Frag):V->List V->Hp->VK->Prop:=λ x xs H Q=>∃ (p:Addr) (bs:List Bool),x=.ref p/\xs=[.bl true]/\SqL K H p (bs.map V.bl)/\Q (.int ((bs.map Value.bool).countP (isBoolOf true):Nat)) H
theorem Aif:MtR X "list.count" (Ajc X.K):=by
 rintro pins s σ H x xs v us Q I rx rv ⟨p,bs,rfl,rfl,hp,q⟩
 cases rx
 obtain⟨u,rfl,ru⟩:=vals1 rv
 cases ru
 obtain⟨its,rv,pl,hz⟩:=I.list hp
 obtain rfl:=Xd rv
 obtain⟨⟨cls,dt,data,sl⟩,ho,hc,n,hd⟩:=pl.isList
 simp only at hc hd
 subst hc hd
 exact call_meets PySem.F.slot_list_count ⟨_,ho,rfl⟩ PySem.F.entry_list_count (PySem.F.args_list_count_2 _ _) (list_countAt p _ n dt sl (.bool true) (isBoolOf true)) ⟨ho,λ y hy=>Aiw y (by simpa using hy),⟨.int _,H,I.tok _,⟨_,rfl⟩,q⟩⟩
def Ai3 (K:PySem.W.Frag):V->List V->Hp->VK->Prop:=λ x xs H Q=>∃ (p:Addr) (bs:List Bool) (j:Nat),x=.ref p/\xs=[.bl true]/\SqL K H p (bs.map V.bl)/\j<100/\bs[j]?=some true/\(∀ m,m<j->bs[m]?=some false)/\Q (.int (j:Nat)) H
theorem Aia:MtR X "list.index" (Ai3 X.K):=by
 rintro pins s σ H x xs v us Q I rx rv ⟨p,bs,j,rfl,rfl,hp,hj,h1,h2,q⟩
 cases rx
 obtain⟨u,rfl,ru⟩:=vals1 rv
 cases ru
 obtain⟨its,rv,pl,hz⟩:=I.list hp
 obtain rfl:=Xd rv
 obtain⟨⟨cls,dt,data,sl⟩,ho,hc,n,hd⟩:=pl.isList
 simp only at hc hd
 subst hc hd
 obtain⟨hl,e1⟩:=List.getElem?_eq_some_iff.mp h1
 refine call_meets PySem.F.slot_list_index ⟨_,ho,rfl⟩ PySem.F.entry_list_index (PySem.F.args_list_index_2 _ _) (list_indexAt p _ n dt sl (.bool true) (isBoolOf true) j (by simpa using hl) (by omega) ?_ ?_) ⟨ho,λ y hy=>Aiw y (by simpa using hy),⟨.int _,H,I.tok _,⟨_,rfl⟩,q⟩⟩
 ·simp [isBoolOf,e1]
 ·intro m hm hlt
  obtain⟨hl',e2⟩:=List.getElem?_eq_some_iff.mp (h2 m hlt)
  simp [isBoolOf,e2]
end
end M
namespace M
open PySem PySem.W PySem.Spec PyProof.Rows L2 PySem.Calls
theorem Aw1 {α:Type}{us:List α}(h:us.length=6):∃ a b c d e f,us=[a,b,c,d,e,f]:=by
 cases us with
 | nil=>cases h
 | cons a us=>obtain⟨b,c,d,e,f,g⟩:=Au2 (Nat.succ.inj h);exact⟨a,b,c,d,e,f,by rw [g]⟩
abbrev pcx (X:Cx) (e:Addr) (o:Obj):Cx:={ X with pn:=(e,o) :: X.pn,xe:=λ _ _=>False }
def HR (X:Cx) (a:Addr) (i:Nat) (sts:List Stmt) (v:V):Prop:=PSs X sts λ D σ H=>σ.length=X.N.length/\σ[i]?=some (some (.ref a))/\∀ H',Same H H'->D.rt v H'
section
variable {X:Cx}{G:Fc}{pins:List (Addr × Obj)}{σ:L2.St}{H H':Hp}{s s':Shared}{C e:Addr}{o:Obj}
theorem Amz (ok:X.Ok) (I:Inv (hcx X e o) pins σ H s):Inv (pcx X e o) pins σ H s :=
 ⟨⟨ok.mod,ok.kind,ok.glob,ok.blt,ok.above,ok.inj,ok.has,ok.cab,ok.hd,ok.frames,ok.stk,ok.exf,ok.bs,ok.bsz,ok.noex,ok.exfs,ok.funs,ok.frf⟩,I.os,I.bare,I.base,I.loc,I.cell,I.free,I.freeC,I.pin,I.hok,I.len⟩
theorem Af7 (ok:X.Ok) (I:Inv (pcx X e o) pins σ H s):Inv X pins σ H s :=
 ⟨ok,I.os,I.bare,I.base,I.loc,I.cell,I.free,I.freeC,λ p hp=>I.pin p (by
  rcases List.mem_append.mp hp with hp|hp
  ·exact List.mem_append_left _ (List.mem_cons_of_mem _ hp)
  ·exact List.mem_append_right _ hp),I.hok,I.len⟩
structure Told (X:Cx) (i:Nat) (D:Addr) (rest:List Stmt) (hd:Nat->Option M.D):Prop where
 at_:∀ c d C e o vs,hd c=some d->X.mg (cname c)=some (.ref C)->o.cls=.ref C->o.data=.fields vs->mroIn X.K C (.ref D)=some true/\∃ v,HR (pcx X e o) e i rest v/\∀ K H O,Rp K H O d v
theorem Aof {i i0:Nat}{b₀ b₁ c₀:Stmt}{rest:List Stmt}{x n:Str}{D:Addr}{np hpos pos:Pos}{m0 m1 mr:EX}{hd:Nat->Option M.D}(h0:SX X G b₀ m0) (h1:SX X G b₁ m1) (hr0:SB X G rest mr) (hS:∀ e o,PSs (hcx X e o) [c₀] (R6 (Dr i) (Hg i0))) (hk:Told X i0 D rest hd) (hii:i≠i0) (hN:X.N.Nodup) (hstk:X.stack=X.env :: X.outer) (hf:X.env.frame=some X.env.locals) (hg:Gl X x) (hm:X.mg x=some (.ref D)) (XD:XTop X.K D)
  (hi:X.N[i]?=some n:=by rfl) (hi0:X.N[i0]?.isSome=true:=by rfl) (hl:X.env.kindOf n=some .local:=by rfl) (hlo:Loc X.env.scope n:=by first|exact Or.inl rfl|exact Or.inr rfl) (hfn:X.fn n=true\/X.env.scope.names.lookup n=some .local:=by first|exact .inl rfl|exact .inr rfl) (hdb:(x == ("__debug__":Str))=false:=by decide) :
  SB X G (.Try [b₀,b₁] [.ExceptHandler (some (.Name x np)) (some n) [c₀] hpos] [] [] pos :: rest) (Am5 m0 m1 mr hd):=by
 have hi0:i0<X.N.length:=by simpa using hi0
 rintro pins s σ H Dn I ⟨Ev,hr,f⟩
 -- what follows the try
 let QT:Flow->Shared->Prop:=λ fl s1=>fl=.next/\wpAny (model X.prog X.w) X.A (execs rest X.env) (SP X pins Dn) X.xe s1
 let xe:Value->Shared->Prop:=λ e s₁=>wpAny (model X.prog X.w) X.A (noteFrame e X.env) (λ _ s₂=>wpAny (model X.prog X.w) X.A (setFlight e none) (λ _ s₃=>wpAny (model X.prog X.w) X.A (handleBy e X.env [.ExceptHandler (some (.Name x np)) (some n) [c₀] hpos]) QT X.xe s₃) X.xe s₂) X.xe s₁
 have land:∀ (c:Nat) (σ1:L2.St) (H1:Hp) (s1:Shared) (H':Hp) (s':Shared) (e C:Addr),Fin (match hd c with|some d=>(.ok (.rt d):R Out)|none=>.no) (Pj X.K G Dn) G.xc->Inv X pins σ1 H1 s1->Same G.h0 H1->Fly X.prog X.w X.stack H1 s1 C e H' s'->X.mg (cname c)=some (.ref C)->xe (.ref e) s':=by
  intro c σ1 H1 s1 H' s' e C f I1 sm F hmc
  cases eh:hd c with
  | none=>rw [eh] at f;exact f.elim
  | some d =>
   rw [eh] at f
   obtain⟨B,t,fl,c2,c3⟩:=F.fl
   have fl':Heap.FlyingW B (X.env :: X.outer) e (.ref C) (.ref t) s'.heap:=by rw [<-hstk];exact fl
   refine wpAny_looks_onW (I.ok.frames.trans (by rw [hstk])) hf fl' λ h₄ hheld₄ hsm₄=>?_
   refine wpAny_landsW hheld₄ λ h₅ hfl₅ hsm₅=>?_
   have J5:=F.here I1 c2 c3 hfl₅.1 (hsm₄.trans hsm₅)
   obtain⟨oe,vs,hoe,hcl,hda,_⟩:=hfl₅.first
   have J5h:=Acs J5 hoe F.fr hda
   refine wpAny_handleBy_cons (codeAny_handlers_test (Mf J5h hg hm ?_ hdb)) (by intro q;cases q)
   refine Afe J5.kIn XD hoe hcl (hk.at_ c d C e oe vs eh hmc hcl hda).1 ?_
   refine codeAny_handlers_suite_as ?_
   refine lands_againW hfl₅ λ h₆ hfl₆ hsm₆=>?_
   have J6:=F.here I1 c2 c3 hfl₆.1 ((hsm₄.trans hsm₅).trans hsm₆)
   obtain⟨o6,vs6,ho6,hc6,hd6,_⟩:=hfl₆.first
   have J6h:=Acs J6 ho6 F.fr hd6
   obtain⟨_,v,hs,hrp⟩:=hk.at_ c d C e o6 vs6 eh hmc hc6 hd6
   refine Uk (X:=hcx X e o6) (v:=.ref e) J6h hN hi hlo rfl (λ s7 I7=>?_) hfn
   have lσ:σ1.length=X.N.length:=I1.len
   have hiσ:i<σ1.length:=by rw [lσ];exact (List.getElem?_eq_some_iff.mp hi).1
   refine wpAny_mono (hS e o6 pins s7 _ H' ⟨λ σ8 H8=>σ8=(σ1.set i (some (.ref e))).set i0 (some (.ref e))/\H8=H',λ _ _=>False,λ _ _=>False,λ _ _=>False⟩ I7 ⟨_,List.getElem?_set_self hiσ,rfl,rfl⟩) ?_ λ _ _ z=>False.elim z
   intro fl8 s8 q8
   cases fl8 with
   | ret u=>obtain⟨_,_,_,_,_,z⟩:=q8;exact z.elim
   | brk=>obtain⟨_,_,_,z⟩:=q8;exact z.elim
   | cont=>obtain⟨_,_,_,z⟩:=q8;exact z.elim
   | next =>
    obtain⟨σ8,H8,I8,rfl,rfl⟩:=q8
    refine Aed (X:=hcx X e o6) I8 hN hi hl λ s9 I9=>⟨rfl,?_⟩
    have I9':=Amz I.ok I9
    refine wpAny_mono (hs pins s9 _ H8 ⟨λ _ _=>False,λ w H10=>w=v/\Same H8 H10,λ _ _=>False,λ _ _=>False⟩ I9' ⟨by simp [lσ],by rw [List.getElem?_set_ne hii,List.getElem?_set_self (by simp [lσ];exact hi0)],λ H10 z=>⟨rfl,z⟩⟩) ?_ λ _ _ z=>False.elim z
    intro fl10 s10 q10
    cases fl10 with
    | next=>obtain⟨_,_,_,z⟩:=q10;exact z.elim
    | brk=>obtain⟨_,_,_,z⟩:=q10;exact z.elim
    | cont=>obtain⟨_,_,_,z⟩:=q10;exact z.elim
    | ret u =>
     obtain⟨v',σ10,H10,I10,r10,rfl,s10'⟩:=q10
     exact⟨_,_,_,Af7 I.ok I10,r10,f _ _ ((sm.trans F.same).trans s10') (hrp _ _ _)⟩
 have f0:Fin (m0 Ev) (Pj X.K G ⟨λ σ1 H1=>∃ E1,m0 Ev=.ok (.nx E1)/\Rel X.K G E1 σ1 H1,λ _ _=>False,λ _ _=>False,λ _ _=>False⟩) (λ c=>∀ H1 s1 H' s' e C,Inv X pins σ H1 s1->Same H H1->Fly X.prog X.w X.stack H1 s1 C e H' s'->X.mg (cname c)=some (.ref C)->xe (.ref e) s'):=by
  unfold Am5 at f
  cases em:m0 Ev with
  | ok o =>
   cases o with
   | nx E1=>exact λ σ1 H1 r=>⟨E1,rfl,r⟩
   | _=>rw [em] at f;exact f.elim
  | er c=>rw [em] at f;exact λ H1 s1 H' s' e C I1 sm F hm=>land c σ H1 s1 H' s' e C f I1 (hr.base.trans sm) F hm
  | no=>rw [em] at f;exact f
 refine wpAny_execs_cons (thn (Q:=QT) (wpAny_Try_except (wpAny_execs_cons (thn (h0 xe pins s σ H _ Ev I hr f0) λ fl s1 q=>?_))) λ fl s1 q=>?_)
 ·cases fl with
  | ret u=>obtain⟨_,_,_,_,_,z⟩:=q;exact z.elim
  | brk=>obtain⟨_,_,_,z⟩:=q;exact z.elim
  | cont=>obtain⟨_,_,_,z⟩:=q;exact z.elim
  | next =>
   obtain⟨σ1,H1,I1,E1,em,r1⟩:=q
   unfold Am5 at f
   rw [em] at f
   dsimp only at f
   have f1:Fin (m1 E1) (Pj X.K G ⟨λ σ2 H2=>∃ E2,m1 E1=.ok (.nx E2)/\Rel X.K G E2 σ2 H2,λ _ _=>False,λ _ _=>False,λ _ _=>False⟩) (λ c=>∀ H2 s2 H' s' e C,Inv X pins σ1 H2 s2->Same H1 H2->Fly X.prog X.w X.stack H2 s2 C e H' s'->X.mg (cname c)=some (.ref C)->xe (.ref e) s'):=by
    cases en:m1 E1 with
    | ok o =>
     cases o with
     | nx E2=>exact λ σ2 H2 r=>⟨E2,rfl,r⟩
     | _=>rw [en] at f;exact f.elim
    | er c=>rw [en] at f;exact λ H2 s2 H' s' e C I2 sm F hm=>land c σ1 H2 s2 H' s' e C f I2 (r1.base.trans sm) F hm
    | no=>rw [en] at f;exact f
   refine wpAny_execs_cons (thn (h1 xe pins s1 σ1 H1 _ E1 I1 r1 f1) λ fl s2 q=>?_)
   cases fl with
   | ret u=>obtain⟨_,_,_,_,_,z⟩:=q;exact z.elim
   | brk=>obtain⟨_,_,_,z⟩:=q;exact z.elim
   | cont=>obtain⟨_,_,_,z⟩:=q;exact z.elim
   | next =>
    obtain⟨σ2,H2,I2,E2,en,r2⟩:=q
    rw [en] at f
    exact wpAny_execs_nil (wpAny_execs_nil ⟨rfl,hr0 pins s2 σ2 H2 Dn I2 ⟨E2,r2,f⟩⟩)
 ·obtain⟨rfl,q⟩:=q
  exact q
end
noncomputable def tHE (a:Addr) (b:Bool):TE:=λ σ H Q=>σ[6]?=some (some (.ref a))/\Q (.bl b) H
noncomputable def Ajp (K:PySem.W.Frag) (a:Addr) (b1 b2 b3 b4 b5 b6 b7:Bool):TS :=
 Mw (Aic (tB (Asd (Dr 6))) (Z6 (tC (.int 0))) Ul)
 (Mw (R6 (Ar3 (Bw (tHE a b1) (Bw (tHE a b2) (Bw (tHE a b3) K7)))) (Hg 8))
 (Mw (R6 (tOp Asr (Dr 8) (Ar3 (Bw (tHE a b4) (Bw (tHE a b5) (Bw (tHE a b6) K7))))) (Hg 8))
 (Mw (Aic (tOr (Rh (tOp rNe (tBM K "list" (Ajc K) (Dr 8) (Bw (tC (.bl true)) K7)) (tC (.int 1)))) (Aue (tB (tHE a b7)))) (Z6 (tC (.int 7))) Ul)
 (Z6 (tOp (rI0 λ i j=>.int (i+j)) (tC (.int 1)) (tBM K "list" (Ai3 K) (Dr 8) (Bw (tC (.bl true)) K7)))))))
theorem Yd {K:PySem.W.Frag}{a:Addr}{b1 b2 b3 b4 b5 b6:Bool}{j:Nat}(h1:(([b1,b2,b3,b4,b5,b6].map Value.bool).countP (isBoolOf true))=1) (hj:j<100) (h2:[b1,b2,b3,b4,b5,b6][j]?=some true) (h3:∀ m,m<j->[b1,b2,b3,b4,b5,b6][m]?=some false) {D:Ends}{σ:L2.St}{H:Hp}(hl:σ.length=9) (h6:σ[6]?=some (some (.ref a))) (q:∀ H',Same H H'->D.rt (.int (1+(j:Nat))) H'):Ajp K a b1 b2 b3 b4 b5 b6 true D σ H:=by
 refine⟨_,h6,_,rfl,?_⟩
 rw [show decide (V.ref a=V.non)=false from rfl]
 refine Acr ?_
 refine⟨h6,h6,h6,by show 3<=sizeLine;rw [sizeLine_eq];decide,λ p e1=>?_⟩
 have g6:(σ.set 8 (some (V.ref p)))[6]?=some (some (.ref a)):=by rw [List.getElem?_set_ne (by decide)];exact h6
 refine⟨_,List.getElem?_set_self (by omega),g6,g6,g6,by show 3<=sizeLine;rw [sizeLine_eq];decide,λ p2 e2=>?_⟩
 have n12:p≠p2:=λ z=>by rw [<-z,Aj] at e2;cases e2
 refine⟨p,p2,_,_,rfl,rfl,by rw [Al n12];exact Aj,Aj,by show 6<=sizeLine;rw [sizeLine_eq];decide,λ p3 e3=>?_⟩
 have k6:((σ.set 8 (some (V.ref p))).set 8 (some (V.ref p3)))[6]?=some (some (.ref a)):=by rw [List.getElem?_set_ne (by decide)];exact g6
 have k8:((σ.set 8 (some (V.ref p))).set 8 (some (V.ref p3)))[8]?=some (some (.ref p3)):=List.getElem?_set_self (by rw [List.length_set];omega)
 have sq:∀ {H'':Hp},SqL K (upd H'' p3 (.lst ([.bl b1,.bl b2,.bl b3]++[.bl b4,.bl b5,.bl b6]))) p3 ([b1,b2,b3,b4,b5,b6].map V.bl):=SqL.of Aj
 refine⟨_,k8,.inl ⟨rfl,_,sq⟩,p3,[b1,b2,b3,b4,b5,b6],rfl,rfl,sq,?_⟩
 rw [h1]
 refine⟨rfl,_,rfl,?_⟩
 rw [show (!decide (V.int ((1:Nat):Int)=V.int 1))=false from rfl]
 refine Acr ?_
 refine⟨k6,_,rfl,?_⟩
 refine Acr ?_
 refine⟨_,k8,.inl ⟨rfl,_,sq⟩,p3,[b1,b2,b3,b4,b5,b6],j,rfl,rfl,sq,hj,h2,h3,1,(j:Nat),rfl,rfl,?_⟩
 exact q _ (((Av e1).trans (Av e2)).trans (Av e3))
end M
namespace Ma
abbrev Sq:=Int × Int
def Slt (a b:Sq):Prop:=a.1<b.1\/(a.1=b.1/\a.2<b.2)
theorem Slt.irr {a:Sq}:¬ Slt a a:=by unfold Slt;omega
theorem Slt.trans {a b c:Sq}:Slt a b->Slt b c->Slt a c:=by unfold Slt;omega
instance (a b:Sq):Decidable (Slt a b):=by unfold Slt;exact inferInstance
theorem Ed {l:List Sq}(h:l.Pairwise Slt):l.Nodup:=h.imp λ {a b} h e=>by subst e;exact Slt.irr h
theorem G6 {α:Type} [DecidableEq α]:∀ {l1 l2:List α},l1.Nodup->(∀ x∈l1,x∈l2)->l1.length<=l2.length
 | [],_,_,_=>by simp
 | a :: l1,l2,h,s=>by
  rw [List.nodup_cons] at h
  have ha:=s a (by simp)
  have:=G6 (l2:=l2.erase a) h.2 λ x hx=>by
   have hne:x≠a:=λ e=>h.1 (by rw [<-e];exact hx)
   exact (List.mem_erase_of_ne hne).2 (s x (List.mem_cons_of_mem _ hx))
  rw [List.length_erase_of_mem ha] at this
  have:=List.length_pos_of_mem ha
  simp;omega
theorem Vz {α:Type} [DecidableEq α] {l1 l2:List α}(h1:l1.Nodup) (h2:l2.Nodup) (h:∀ x,x∈l1 ↔ x∈l2):l1.length=l2.length :=
 Nat.le_antisymm (G6 h1 λ x hx=>(h x).1 hx) (G6 h2 λ x hx=>(h x).2 hx)
def OnB (s:Sq):Prop:=0<=s.1/\s.1<8/\0<=s.2/\s.2<8
instance (s:Sq):Decidable (OnB s):=by unfold OnB;exact inferInstance
structure IsFloor (F:List Sq):Prop where
 ord:F.Pairwise Slt
 on:∀ s∈F,OnB s
def InR (q:Sq):Prop:=-1<=q.1/\q.1<=8/\-1<=q.2/\q.2<=8
instance (s:Sq):Decidable (InR s):=by unfold InR;exact inferInstance
def Acq (p q:Sq):Prop:=p.1-1<=q.1/\q.1<=p.1+1/\p.2-1<=q.2/\q.2<=p.2+1/\InR q
inductive Reach (F:List Sq):Sq->Prop
 | base:Reach F (-1,-1)
 | step {p q:Sq}:Reach F p->Acq p q->q∉F->Reach F q
theorem Reach.inR {F:List Sq}{p:Sq}(h:Reach F p):InR p:=by
 cases h with
 | base=>unfold InR;decide
 | step _ n _=>exact n.2.2.2.2
structure Closed (F L:List Sq):Prop where
 st:(-1,-1)∈L
 ok:∀ x∈L,Reach F x
 cl:∀ p∈L,∀ q,Acq p q->q∉F->q∈L
theorem Closed.iff {F L:List Sq}(h:Closed F L) (x:Sq):x∈L ↔ Reach F x:=⟨h.ok x,λ r=>by
 induction r with
 | base=>exact h.st
 | step _ n f ih=>exact h.cl _ ih _ n f⟩
end Ma
namespace M
open PySem PySem.Spec PyProof.Rows L2 Ma
@[simp] theorem Auv {α:Type}(a:α):(pure a:R α)=.ok a:=rfl
@[simp] theorem Av5 (m n:EX) (E:Ev):Bc m n E=(m E >>= λ o=>match o with|.nx E'=>n E'|o=>.ok o):=rfl
@[simp] theorem Avk (E:Ev):Eu E=.ok (.nx E):=rfl
@[simp] theorem Avy (m:EV) (E:Ev):Ek m E=(m E >>= λ d=>.ok (.rt d)):=rfl
@[simp] theorem Atr (E:Ev):Ati E=.ok (.rt .non):=rfl
@[simp] theorem Av6 (i:Nat) (m:EV) (E:Ev):Fx i m E=(m E >>= λ d=>.ok (.nx (E.set i (.fz d)))):=rfl
@[simp] theorem Av8 (i:Nat) (m:EV) (E:Ev):Ack i m E=(m E >>= λ d=>.ok (.nx (E.set i (.ow d)))):=rfl
@[simp] theorem Ayt (m:EV) (E:Ev):xDo m E=(m E >>= λ _=>.ok (.nx E)):=rfl
@[simp] theorem Aw7 (t:Ev->R Bool) (a b:EX) (E:Ev):xIf t a b E=(t E >>= λ k=>if k=true then a E else b E):=rfl
@[simp] theorem Awb (i:Nat) (m:EX) (E:Ev):Ag9 i m E=m (frz i E):=rfl
@[simp] theorem Avc (i:Nat) (m:EV) (E:Ev):Amw i m E=(match E[i]? with
 | some (.ow (.lst ds))=>m E >>= λ d=>if ds.length<1000000 then .ok (.nx (E.set i (.ow (.lst (ds++[d]))))) else .no
 | _=>.no):=rfl
@[simp] theorem Av0 (i:Nat) (m:EV) (E:Ev):Arv i m E=(match E[i]? with
 | some (.ow (.lst ds))=>m E >>= λ d=>match d with
  | .lst es=>if ds.length+es.length<1000000 then .ok (.nx (E.set i (.ow (.lst (ds++es))))) else .no
  | _=>.no
 | _=>.no):=rfl
@[simp] theorem Awi (i j:Nat) (E:Ev):Ard i j E=(match E[i]? with
 | some (.ow (.lst ds))=>match ds[ds.length-1]? with
  | some d=>.ok (.nx ((E.set i (.ow (.lst ds.dropLast))).set j (.fz d)))
  | none=>.no
 | _=>.no):=rfl
@[simp] theorem Ash (i:Nat) (mk mv:EV) (E:Ev):Qe i mk mv E=(match E[i]? with
 | some (.ow (.dic kvs))=>mv E >>= λ d=>mk E >>= λ k=>match keyOf k with
  | some ks=>if kvs.length<1000000 then .ok (.nx (E.set i (.ow (.dic (dput kvs ks d))))) else .no
  | none=>.no
 | _=>.no):=rfl
@[simp] theorem Avn (mi:Ev->R (List D)) (set:D->Ev->Option Ev) (b:EX) (E:Ev):U7 mi set b E=(mi E >>= λ ds=>forL set b ds E):=rfl
@[simp] theorem Awu (i:Nat) (E:Ev) (d:D) (h:E[i]?=some (.fz d)):vE i E=.ok d:=by unfold vE;rw [h]
@[simp] theorem Ax5 (i:Nat) (E:Ev) (d:D) (h:E[i]?=some (.ow d)):vE i E=.ok d:=by unfold vE;rw [h]
@[simp] theorem Axf (i:Nat) (E:Ev) (d:D) (h:E[i]?=some (.fz d)):vF i E=.ok d:=by unfold vF;rw [h]
@[simp] theorem Azf (d:D) (E:Ev):kE d E=.ok d:=rfl
@[simp] theorem Ay5 (f:D->Option D) (a:EV) (E:Ev):e1 f a E=(a E >>= λ x=>ofO (f x)):=rfl
@[simp] theorem Ay7 (f:D->D->Option D) (a b:EV) (E:Ev):e2 f a b E=(a E >>= λ x=>b E >>= λ y=>ofO (f x y)):=rfl
@[simp] theorem Av7 (E:Ev):Aw E=.ok []:=rfl
@[simp] theorem As4 (a:EV) (r:Ev->R (List D)) (E:Ev):Ab a r E=(a E >>= λ x=>r E >>= λ xs=>.ok (x :: xs)):=rfl
noncomputable def unB:D->R Bool
 | .bl b=>.ok b
 | _=>.no
noncomputable def Ar7 (x:D) (y:R D):R D:=match x with
 | .bl true=>y
 | .bl false=>.ok (.bl false)
 | _=>.no
noncomputable def orB (x:D) (y:R D):R D:=match x with
 | .bl true=>.ok (.bl true)
 | .bl false=>y
 | _=>.no
@[simp] theorem Ayx (b:Bool):unB (.bl b)=.ok b:=rfl
@[simp] theorem Av9 (y:R D):Ar7 (.bl true) y=y:=rfl
@[simp] theorem Avf (y:R D):Ar7 (.bl false) y=.ok (.bl false):=rfl
@[simp] theorem Axw (y:R D):orB (.bl true) y=.ok (.bl true):=rfl
@[simp] theorem Axd (y:R D):orB (.bl false) y=y:=rfl
@[simp] theorem At1 (b c:Bool):Ar7 (.bl b) (.ok (.bl c))=.ok (.bl (b && c)):=by cases b<;>rfl
@[simp] theorem Avh (b c:Bool):orB (.bl b) (.ok (.bl c))=.ok (.bl (b || c)):=by cases b<;>rfl
@[simp] theorem Arz (b c:Bool):(if b=true then R.ok c else R.ok false)=R.ok (b && c):=by cases b<;>rfl
@[simp] theorem As1 (b c:Bool):(if b=true then R.ok true else R.ok c)=R.ok (b || c):=by cases b<;>rfl
@[simp] theorem Ars (p:Prop) [Decidable p] (c:Bool):(if p then R.ok c else R.ok false)=R.ok (decide p && c):=by by_cases h:p<;>simp [h]
@[simp] theorem As0 (p:Prop) [Decidable p] (c:Bool):(if p then R.ok true else R.ok c)=R.ok (decide p || c):=by by_cases h:p<;>simp [h]
@[simp] theorem Avp (a:EV) (E:Ev):Ce a E=(a E >>= unB):=by
 unfold Ce;congr 1
@[simp] theorem Aup (a:EV) (E:Ev):Atp a E=(a E >>= λ d=>ofO (Asb d)):=rfl
@[simp] theorem Au5 (t u:Ev->R Bool) (E:Ev):Ajx t u E=(t E >>= λ k=>if k=true then u E else .ok false):=rfl
@[simp] theorem Awv (t u:Ev->R Bool) (E:Ev):bOr t u E=(t E >>= λ k=>if k=true then .ok true else u E):=rfl
@[simp] theorem Avj (t:Ev->R Bool) (E:Ev):Abq t E=(t E >>= λ k=>.ok (!k)):=rfl
@[simp] theorem Aum (t u:EV) (E:Ev):Ar0 t u E=(t E >>= λ d=>Ar7 d (u E)):=rfl
@[simp] theorem Ax7 (t u:EV) (E:Ev):eOr t u E=(t E >>= λ d=>orB d (u E)):=rfl
noncomputable def Avr:D->R D
 | .bl k=>.ok (.bl (!k))
 | _=>.no
@[simp] theorem Awk (b:Bool):Avr (.bl b)=.ok (.bl (!b)):=rfl
@[simp] theorem Ave (t:EV) (E:Ev):Awe t E=(t E >>= Avr):=by
 unfold Awe;congr 1
@[simp] theorem Ayp (t:Ev->R Bool) (a b:EV) (E:Ev):eIf t a b E=(t E >>= λ k=>if k=true then a E else b E):=rfl
@[simp] theorem Auw (t:Ev->R (List D)) (E:Ev):Gs t E=(t E >>= λ ds=>if ds.length<=1000 then .ok (.tup ds) else .no):=rfl
@[simp] theorem Avv (t:Ev->R (List D)) (E:Ev):O8 t E=(t E >>= λ ds=>if ds.length<=1000 then .ok (.lst ds) else .no):=rfl
@[simp] theorem Axq (a:EV) (lo hi:Ev->R (Option Int)) (E:Ev):eSl a lo hi E=(a E >>= λ x=>lo E >>= λ l=>hi E >>= λ h=>ofO (fSl x l h)):=rfl
@[simp] theorem Asz (m:EV) (E:Ev):Kg m E=(m E >>= λ d=>match d with|.int i=>.ok (some i)|_=>.no):=rfl
@[simp] theorem Asg (E:Ev):Kf E=.ok none:=rfl
@[simp] theorem Aw3 (f g:D->D->Option D) (ma mb mc:EV) (E:Ev):eCh f g ma mb mc E=(ma E >>= λ x=>mb E >>= λ y=>ofO (f x y) >>= λ t=>match t with
 | .bl true=>mc E >>= λ z=>ofO (g y z)
 | .bl false=>.ok (.bl false)
 | _=>.no):=rfl
@[simp] theorem Awq (mk mv:EV) (E:Ev):eD1 mk mv E=(mk E >>= λ k=>mv E >>= λ v=>match keyOf k with
 | some ks=>if Yh v=true then .ok (.dic [(ks,v)]) else .no
 | none=>.no):=rfl
@[simp] theorem Atf (n:Nat) (dn:List D->R D) (ma:Ev->R (List D)) (E:Ev):Am n dn ma E=(ma E >>= λ ds=>if ds.length=n then dn ds else .no):=rfl
@[simp] theorem Arn (i:Nat) (m:EV) (E:Ev):Acu i m E=(m (frz i E) >>= flat):=rfl
@[simp] theorem Azb (m:EV) (E:Ev):iD m E=(m E >>= λ d=>match d with|.lst ds=>.ok ds|_=>.no):=rfl
@[simp] theorem Azc (m:EV) (E:Ev):iT m E=(m E >>= λ d=>match d with|.tup ds=>.ok ds|_=>.no):=rfl
noncomputable def rng (a b:Int):List Int:=(List.range (b-a).toNat).map λ (k:Nat)=>a+(k:Int)
theorem Amx {a b x:Int}:x∈rng a b ↔ a<=x/\x<b:=by
 unfold rng
 simp only [List.mem_map,List.mem_range]
 constructor
 ·rintro⟨k,hk,rfl⟩;omega
 ·rintro⟨h1,h2⟩;exact⟨(x-a).toNat,by omega,by omega⟩
theorem J9 (a b:Int):(rng a b).length=(b-a).toNat:=by simp [rng]
theorem M8 (a b:Int):(rng a b).Pairwise (·<·):=by
 unfold rng
 rw [List.pairwise_map]
 exact List.pairwise_lt_range.imp λ h=>by omega
@[simp] theorem Axx (m:EV) (E:Ev):iR1 m E=(m E >>= λ d=>match d with
 | .int n=>if n.natAbs<1000000 then .ok ((rng 0 n).map D.int) else .no
 | _=>.no):=by
 unfold iR1 rng
 congr 1
 funext d
 cases d<;>simp
 rfl
@[simp] theorem Axv (m n:EV) (E:Ev):iR2 m n E=(m E >>= λ d=>n E >>= λ e=>match d,e with
 | .int a,.int b=>if a.natAbs<1000000/\b.natAbs<1000000 then .ok ((rng a b).map D.int) else .no
 | _,_=>.no):=by
 unfold iR2 rng
 congr 1
 funext d
 congr 1
 funext e
 cases d<;>cases e<;>simp
 rfl
@[simp] theorem Ay9 (ma mb:EV) (E:Ev):iZ ma mb E=(ma E >>= λ x=>mb E >>= λ y=>match x,y with
 | .lst xs,.lst ys=>.ok (List.zipWith (λ a b=>D.tup [a,b]) xs ys)
 | _,_=>.no):=rfl
@[simp] theorem Ay6 (i:Nat) (d:D) (E:Ev):gN i d E=some (E.set i (.fz d)):=rfl
@[simp] theorem Ay4 (i j:Nat) (a b:D) (E:Ev):gT i j (.tup [a,b]) E=some ((E.set i (.fz a)).set j (.fz b)):=rfl
@[simp] theorem As5 (E:Ev):Kh E=.ok true:=rfl
@[simp] theorem Ayu (n:Nat) (m:EX) (ds:List D):den n m ds=ended (m (ds.map Sl.fz++List.replicate (n-ds.length) .un)):=rfl
@[simp] theorem Ar2 (d:D):ended (.ok (.rt d))=.ok d:=rfl
@[simp] theorem Arm (E:Ev):ended (.ok (.nx E))=.ok .non:=rfl
@[simp] theorem Asw (b:Bool):flat (.bl b)=.ok (.bl b):=rfl
@[simp] theorem Arf (b:Int):flat (.int b)=.ok (.int b):=rfl
@[simp] theorem Ar1:flat .non=.ok .non:=rfl
theorem Aom (i:Nat) (E:Ev):frz i E=(match E[i]? with|some (.ow d)=>E.set i (.fz d)|_=>E):=by
 unfold frz;rfl
@[simp] theorem Avu (a b:Int):Ew (.int a) (.int b)=some (.int (a+b)):=rfl
@[simp] theorem Au8 (a b:Int):Lw (.int a) (.int b)=some (.int (a-b)):=rfl
@[simp] theorem Aus (a:Int):Abi (.int a)=some (.int (-a)):=rfl
@[simp] theorem Au7 (a b:Int):Am8 (.int a) (.int b)=if a.natAbs<2 ^ 63\/b.natAbs<2 ^ 63 then some (.int (a * b)) else none:=rfl
@[simp] theorem Avo (a b:Int):Aix (.int a) (.int b)=if 0<b/\b<1073741824 then some (.int (a / b)) else none:=rfl
@[simp] theorem Av3 (a b:Int):Nb (.int a) (.int b)=if 0<b then some (.int (a % b)) else none:=rfl
@[simp] theorem Aw4 (a b:Int):fLt (.int a) (.int b)=some (.bl (decide (a<b))):=rfl
@[simp] theorem Avw (a b:Int):Anb (.int a) (.int b)=some (.bl (decide (a<b))):=rfl
@[simp] theorem Ayc (a b:Int):fLe (.int a) (.int b)=some (.bl (decide (a<=b))):=rfl
@[simp] theorem Axj (a b:Int):fGt (.int a) (.int b)=some (.bl (decide (b<a))):=rfl
@[simp] theorem Ax0 (a b:Int):fGe (.int a) (.int b)=some (.bl (decide (b<=a))):=rfl
@[simp] theorem Awh (a b:Int):Anj (.int a) (.int b)=some (.int (if b > a then b else a)):=rfl
@[simp] theorem Ava (a b:Int):Aon (.int a) (.int b)=some (.int (if b<a then b else a)):=rfl
theorem Ad9 {α:Type} [DecidableEq α] (a b:α):(a == b)=decide (a=b):=by by_cases h:a=b<;>simp [h]
@[simp] theorem Axo (a b:Int):fEq (.int a) (.int b)=some (.bl (decide (a=b))):=by rw [<-Ad9];rfl
@[simp] theorem Aww (a b:Int):fNe (.int a) (.int b)=some (.bl (!(decide (a=b)))):=by rw [<-Ad9];rfl
@[simp] theorem Ax3 (a b:Bool):fEq (.bl a) (.bl b)=some (.bl (a == b)):=rfl
@[simp] theorem Awm (a b:Bool):fNe (.bl a) (.bl b)=some (.bl (!(a == b))):=rfl
@[simp] theorem Aul (ds:List D):Yp (.lst ds)=some (.int ds.length):=rfl
@[simp] theorem Avt (ds:List D):Yp (.tup ds)=some (.int ds.length):=rfl
@[simp] theorem Avg (ds:List (List Int × D)):Yp (.dic ds)=some (.int ds.length):=rfl
@[simp] theorem Aut (ds:List Int):Yp (.scr ds)=some (.int ds.length):=rfl
@[simp] theorem Atx (ds:List D):V3 (.lst ds)=some (.lst ds):=rfl
@[simp] theorem Au9 (b:Bool):Asb (.bl b)=some b:=rfl
@[simp] theorem Auq (ds:List D):Asb (.lst ds)=some (!ds.isEmpty):=rfl
abbrev dS (s:Sq):D:=.tup [.int s.1,.int s.2]
abbrev dL (L:List Sq):D:=.lst (L.map dS)
abbrev dD (L:List Sq):D:=.dic (L.map λ s=>([s.1,s.2],.bl true))
theorem Aj3 {α:Type}{xs:List α}{i:Int}(h0:0<=i) (h1:i<xs.length):atI xs i=xs[i.toNat]?:=by
 unfold atI ixN
 rw [if_pos h0,if_pos h1];rfl
theorem Iw {α:Type}{xs:List α}{i:Nat}{x:α}(h:xs[i]?=some x):atI xs (i:Int)=some x:=by
 have h1:i<xs.length:=(List.getElem?_eq_some_iff.mp h).1
 rw [Aj3 (by omega) (by omega)]
 simpa using h
@[simp] theorem Axn (a:D) (r:List D):fIx (.tup (a :: r)) (.int 0)=some a:=Iw (i:=0) rfl
@[simp] theorem Ayo (a b:D) (r:List D):fIx (.tup (a :: b :: r)) (.int 1)=some b:=Iw (i:=1) rfl
@[simp] theorem Ax9 (a b c:D) (r:List D):fIx (.tup (a :: b :: c :: r)) (.int 2)=some c:=Iw (i:=2) rfl
@[simp] theorem Ayl {α:Type}(a:α) (r:List α):atI (a :: r) 0=some a:=Iw (i:=0) rfl
@[simp] theorem Awo {α:Type}(a b:α) (r:List α):atI (a :: b :: r) 1=some b:=Iw (i:=1) rfl
@[simp] theorem Axi {α:Type}(a b c:α) (r:List α):atI (a :: b :: c :: r) 2=some c:=Iw (i:=2) rfl
@[simp] theorem Auh (ds:List D) (i:Int):fIx (.lst ds) (.int i)=atI ds i:=rfl
def Goes (r:R Out) (P:Ev->Prop):Prop:=match r with
 | .ok (.nx E)=>P E
 | .ok (.ct E)=>P E
 | _=>False
@[simp] theorem Asl (E:Ev) (P:Ev->Prop):Goes (.ok (.nx E)) P=P E:=rfl
@[simp] theorem Auj (E:Ev) (P:Ev->Prop):Goes (.ok (.ct E)) P=P E:=rfl
theorem Tt {r:R Out}{E:Ev}{P:Ev->Prop}(h:r=.ok (.nx E)) (hp:P E):Goes r P:=by rw [h];exact hp
section
variable {set:D->Ev->Option Ev}{b:EX}{c:Ev->R Bool}
theorem Wm {d:D}{ds:List D}{E E1:Ev}{P:Ev->Prop}(h1:set d E=some E1) (h2:Goes (b E1) P):∃ E2,P E2/\forL set b (d :: ds) E=forL set b ds E2:=by
 conv=>rhs;intro E2;rhs;lhs;unfold forL
 rw [h1]
 unfold Goes at h2
 split at h2
 ·rename_i E2 e;exact⟨E2,h2,by dsimp only;rw [e];rfl⟩
 ·rename_i E2 e;exact⟨E2,h2,by dsimp only;rw [e];rfl⟩
 ·exact h2.elim
theorem Ld {α S:Type}(f:α->D) (st:S->α->S) (I:S->Ev->Prop):∀ (xs:List α) (s:S) (E:Ev),(∀ s E,I s E->∀ x∈xs,∃ E1,set (f x) E=some E1/\Goes (b E1) (I (st s x)))->I s E →
  ∃ E',forL set b (xs.map f) E=.ok (.nx E')/\I (xs.foldl st s) E'
 | [],s,E,_,h0=>⟨E,rfl,h0⟩
 | x :: r,s,E,h,h0=>by
  obtain⟨E1,e1,e2⟩:=h s E h0 x (by simp)
  obtain⟨E2,i2,e3⟩:=Wm (ds:=r.map f) e1 e2
  obtain⟨E',e4,e5⟩:=Ld f st I r (st s x) E2 (λ s E hE y hy=>h s E hE y (List.mem_cons_of_mem _ hy)) i2
  exact⟨E',by rw [List.map_cons,e3];exact e4,e5⟩
theorem T4 {α:Type}(f:α->D) (I:List α->Ev->Prop) (xs:List α) (h:∀ pre x post,xs=pre++x :: post->∀ E,I pre E->∃ E1,set (f x) E=some E1/\Goes (b E1) (I (pre++[x]))) :
  ∀ (E:Ev),I [] E->∃ E',forL set b (xs.map f) E=.ok (.nx E')/\I xs E':=by
 have key:∀ (post pre:List α) (E:Ev),xs=pre++post->I pre E->∃ E',forL set b (post.map f) E=.ok (.nx E')/\I xs E':=by
  intro post
  induction post with
  | nil=>intro pre E e h0;exact⟨E,rfl,by rw [e,List.append_nil];exact h0⟩
  | cons x r ih =>
   intro pre E e h0
   obtain⟨E1,e1,e2⟩:=h pre x r e E h0
   obtain⟨E2,i2,e3⟩:=Wm (ds:=r.map f) e1 e2
   obtain⟨E',e4,e5⟩:=ih (pre++[x]) E2 (by rw [e];simp) i2
   exact⟨E',by rw [List.map_cons,e3];exact e4,e5⟩
 exact λ E h0=>key xs [] E rfl h0
noncomputable def As8 {α S:Type}(st:S->α->D ⊕ S):List α->S->D ⊕ S
 | [],s=>.inr s
 | x :: r,s=>match st s x with
  | .inl d=>.inl d
  | .inr s'=>As8 st r s'
theorem Alo {S:Type}(I:S->Ev->Prop) (μ:S->Nat) (h:∀ s E,I s E->c E=.ok false\/(c E=.ok true/\Goes (b E) λ E2=>∃ s',I s' E2/\μ s'<μ s)):∀ (n:Nat) (s:S) (E:Ev),I s E->μ s<n->∃ s' E',Aa1 c b n E=.ok (.nx E')/\I s' E'/\c E'=.ok false:=by
 intro n
 induction n with
 | zero=>intro s E _ hm;omega
 | succ n ih =>
  intro s E h0 hm
  rcases h s E h0 with h1|⟨h1,h2⟩
  ·exact⟨s,E,by unfold Aa1;rw [h1];rfl,h0,h1⟩
  ·unfold Aa1
   rw [h1]
   simp only [R.ok_bind,if_true]
   unfold Goes at h2
   split at h2
   ·rename_i E2 e
    obtain⟨s',i2,m2⟩:=h2
    rw [e]
    exact ih s' E2 i2 (by omega)
   ·rename_i E2 e
    obtain⟨s',i2,m2⟩:=h2
    rw [e]
    exact ih s' E2 i2 (by omega)
   ·exact h2.elim
end
theorem Zq {α:Type}{set:D->Ev->Option Ev}{mt:Ev->R Bool}{me:EV}{E:Ev}(f:α->D) (p:α->Bool) (g:α->D):∀ (xs:List α),(∀ x∈xs,∃ E1,set (f x) E=some E1/\mt E1=.ok (p x)/\(p x=true->me E1=.ok (g x))) →
  K5 set mt me E (xs.map f)=.ok ((xs.filter p).map g)
 | [],_=>rfl
 | x :: r,h=>by
  obtain⟨E1,e1,e2,e3⟩:=h x (by simp)
  rw [List.map_cons]
  unfold K5
  rw [e1]
  dsimp only
  rw [e2]
  have ih:=Zq f p g r λ y hy=>h y (List.mem_cons_of_mem _ hy)
  by_cases hp:p x=true
  ·rw [hp,List.filter_cons_of_pos hp,List.map_cons]
   simp only [R.ok_bind,if_true]
   rw [e3 hp,ih];rfl
  ·rw [List.filter_cons_of_neg hp]
   have:p x=false:=by simpa using hp
   rw [this]
   simp only [R.ok_bind,Bool.false_eq_true,if_false]
   exact ih
theorem Aec {α:Type}{set:D->Ev->Option Ev}{me:EV}{E:Ev}(f:α->D) (g:α->D) (xs:List α) (h:∀ x∈xs,∃ E1,set (f x) E=some E1/\me E1=.ok (g x)) :
  K5 set Kh me E (xs.map f)=.ok (xs.map g):=by
 rw [Zq f (λ _=>true) g xs λ x hx=>by obtain⟨E1,e1,e2⟩:=h x hx;exact⟨E1,e1,rfl,λ _=>e2⟩,List.filter_eq_self.2 (by simp)]
@[simp] theorem Atg (ts:List Nat) (set:D->Ev->Option Ev) (mi:Ev->R (List D)) (mt:Ev->R Bool) (me:EV) (E:Ev):Hh ts set mi mt me E=(if Anh ts E=true then (mi E >>= λ ds=>if ds.length<=1000000 then (K5 set mt me (clr ts E) ds >>= λ ys=>.ok (.lst ys)) else .no) else .no):=rfl
theorem Amg (a b:Sq):fLt (dS a) (dS b)=some (.bl (decide (Slt a b))):=by
 show (some (D.bl (HT.lexLt [a.1,a.2] [b.1,b.2])))=_
 simp only [HT.lexLt_cons,HT.lexLt_nil_nil]
 unfold Slt
 by_cases h:a.1=b.1
 ·simp [h];omega
 ·simp [h]
theorem As2 (a b:Sq):fGe (dS a) (dS b)=some (.bl (!(decide (Slt a b)))):=by
 show (some (D.bl (!(HT.lexLt [a.1,a.2] [b.1,b.2]))))=_
 simp only [HT.lexLt_cons,HT.lexLt_nil_nil]
 unfold Slt
 by_cases h:a.1=b.1
 ·simp [h];omega
 ·simp [h]
theorem Aab (ds:List D) (k:Nat):cutD ds (some (k:Int)) none=ds.drop k:=by
 unfold cutD
 rw [HT.sIx_nat,HT.sIx_none]
 by_cases h:k<=ds.length
 ·rw [Nat.min_eq_left h,List.take_of_length_le (by simp)]
 ·rw [Nat.min_eq_right (by omega),List.drop_of_length_le (Nat.le_refl _),List.drop_of_length_le (by omega)];simp
theorem Aqw (ds:List D) (k:Nat):cutD ds none (some (k:Int))=ds.take k:=by
 unfold cutD
 rw [HT.sIx_nat,HT.sIx_none]
 show (ds.drop 0).take (min k ds.length-0)=_
 rw [List.drop_zero,Nat.sub_zero]
 by_cases h:k<=ds.length
 ·rw [Nat.min_eq_left h]
 ·rw [Nat.min_eq_right (by omega),List.take_of_length_le (Nat.le_refl _),List.take_of_length_le (by omega)]
@[simp] theorem Ayy (ds:List D):fSl (.lst ds) (some 1) none=some (.lst (ds.drop 1)):=by
 show some (D.lst (cutD ds (some ((1:Nat):Int)) none))=_
 rw [Aab]
theorem Zf (F G:List Sq):List.zipWith (λ a b=>D.tup [a,b]) (F.map dS) (G.map dS)=(F.zip G).map λ p=>D.tup [dS p.1,dS p.2]:=by
 rw [List.zipWith_map,List.zip,List.map_zipWith]
@[simp] theorem Agw (a b:Sq):eqb (dS a) (dS b)=decide (a=b):=by
 rcases a with ⟨a1,a2⟩;rcases b with ⟨b1,b2⟩
 simp only [eqb,Ss,Prod.mk.injEq,Bool.and_true]
 by_cases h:a1=b1<;>by_cases h':a2=b2<;>simp [h,h']
@[simp] theorem Ayk (a:Sq):pl 3 (dS a)=true:=rfl
@[simp] theorem Ayq (a:Sq):pl 4 (dS a)=true:=rfl
theorem Zw:∀ (L:List Sq),pls 3 (L.map dS)=true
 | []=>rfl
 | a :: r=>by
  have:=Zw r
  simp [pls,this]
theorem Akd (q:Sq):∀ (L:List Sq),((L.map dS).any λ y=>eqb y (dS q))=decide (q∈L)
 | []=>rfl
 | a :: r=>by
  rw [List.map_cons,List.any_cons,Akd q r,Agw]
  by_cases h:a=q
  ·simp [h]
  ·have h':¬ q=a:=λ e=>h e.symm
   simp [h,h']
theorem Aub (q:Sq) (L:List Sq):fIn (dS q) (dL L)=some (.bl (decide (q∈L))):=by
 show (if (pl 3 (dS q) && pls 3 (L.map dS))=true then some (D.bl ((L.map dS).any λ y=>eqb y (dS q))) else none)=_
 rw [Zw,Akd];rfl
theorem Aho (q:Sq) (L:List Sq):Rw (dS q) (dL L)=some (.bl (!(decide (q∈L)))):=by
 show (if (pl 3 (dS q) && pls 3 (L.map dS))=true then some (D.bl (!((L.map dS).any λ y=>eqb y (dS q)))) else none)=_
 rw [Zw,Akd];rfl
theorem Acz (q:Sq):keyOf (dS q)=some [q.1,q.2]:=rfl
theorem Afm:∀ (L M:List Sq),Ss (L.map dS) (M.map dS)=decide (L=M)
 | [],[]=>rfl
 | [],b :: r=>by simp [Ss]
 | a :: r,[]=>by simp [Ss]
 | a :: r,b :: s=>by
  rw [List.map_cons,List.map_cons,Ss,Agw,Afm r s]
  by_cases h:a=b<;>by_cases h':r=s<;>simp [h,h']
theorem Aik (L:List Sq):pl 4 (dL L)=true:=Zw L
@[simp] theorem Axm (L M:List Sq):fEq (dL L) (dL M)=some (.bl (decide (L=M))):=by
 show (if (pl 4 (dL L) && pl 4 (dL M))=true then some (D.bl (Ss (L.map dS) (M.map dS))) else none)=_
 rw [Aik,Aik,Afm];rfl
@[simp] theorem Ayv (L M:List Sq):fNe (dL L) (dL M)=some (.bl (!(decide (L=M)))):=by
 show (if (pl 4 (dL L) && pl 4 (dL M))=true then some (D.bl (!(Ss (L.map dS) (M.map dS)))) else none)=_
 rw [Aik,Aik,Afm];rfl
theorem Asq (a b:Sq):fEq (dS a) (dS b)=some (.bl (decide (a=b))):=by
 show (if (pl 4 (dS a) && pl 4 (dS b))=true then some (D.bl (eqb (dS a) (dS b))) else none)=_
 rw [Agw];rfl
theorem As7 (a b:Sq):fNe (dS a) (dS b)=some (.bl (!(decide (a=b)))):=by
 show (if (pl 4 (dS a) && pl 4 (dS b))=true then some (D.bl (!(eqb (dS a) (dS b)))) else none)=_
 rw [Agw];rfl
theorem Aea (q:Sq):∀ (L:List Sq),(Aan (L.map λ s=>([s.1,s.2],D.bl true)) [q.1,q.2]).isSome=decide (q∈L)
 | []=>rfl
 | a :: r=>by
  have ih:=Aea q r
  rw [List.map_cons]
  unfold Aan
  rcases a with ⟨a1,a2⟩;rcases q with ⟨q1,q2⟩
  by_cases h:a1=q1/\a2=q2
  ·obtain⟨rfl,rfl⟩:=h;simp
  ·have h1:¬ ([a1,a2]=[q1,q2]):=λ e=>h (by simpa using e)
   have h2:¬ ((q1,q2)=(a1,a2)):=λ e=>h (by simp at e;exact⟨e.1.symm,e.2.symm⟩)
   simp only [h1,if_false]
   rw [ih]
   simp only [List.mem_cons,h2,false_or]
theorem Aqn (q:Sq) (L:List Sq):Age (dS q) (dD L)=some (.bl (decide (q∈L))):=by
 show ((keyOf (dS q)).map λ ks=>D.bl (Aan (L.map λ s=>([s.1,s.2],D.bl true)) ks).isSome)=_
 rw [Acz,Option.map_some,Aea]
theorem Aeq (q:Sq) (L:List Sq):Je (dS q) (dD L)=some (.bl (!(decide (q∈L)))):=by
 show ((keyOf (dS q)).map λ ks=>D.bl (!(Aan (L.map λ s=>([s.1,s.2],D.bl true)) ks).isSome))=_
 rw [Acz,Option.map_some,Aea]
@[simp] theorem Atz (a b:Int):keyOf (.tup [.int a,.int b])=some [a,b]:=rfl
@[simp] theorem Aw0 (a b c d:Int):fLt (.tup [.int a,.int b]) (.tup [.int c,.int d])=some (.bl (decide (Slt (a,b) (c,d)))):=Amg (a,b) (c,d)
@[simp] theorem Ax2 (a b c d:Int):fGe (.tup [.int a,.int b]) (.tup [.int c,.int d])=some (.bl (!(decide (Slt (a,b) (c,d))))):=As2 (a,b) (c,d)
@[simp] theorem Awl (a b c d:Int):fEq (.tup [.int a,.int b]) (.tup [.int c,.int d])=some (.bl (decide ((a,b)=(c,d)))):=Asq (a,b) (c,d)
@[simp] theorem Axp (a b c d:Int):fNe (.tup [.int a,.int b]) (.tup [.int c,.int d])=some (.bl (!(decide ((a,b)=(c,d))))):=As7 (a,b) (c,d)
@[simp] theorem Ayd (a b:Int) (L:List Sq):fIn (.tup [.int a,.int b]) (dL L)=some (.bl (decide ((a,b)∈L))):=Aub (a,b) L
@[simp] theorem Ari (a b:Int) (L:List Sq):Rw (.tup [.int a,.int b]) (dL L)=some (.bl (!(decide ((a,b)∈L)))):=Aho (a,b) L
@[simp] theorem Av4 (a b:Int) (L:List Sq):Age (.tup [.int a,.int b]) (dD L)=some (.bl (decide ((a,b)∈L))):=Aqn (a,b) L
@[simp] theorem Anq (a b:Int) (L:List Sq):Je (.tup [.int a,.int b]) (dD L)=some (.bl (!(decide ((a,b)∈L)))):=Aeq (a,b) L
theorem Ajm (q:Sq) (L:List Sq) (h:q∉L):dput (L.map λ s=>([s.1,s.2],D.bl true)) [q.1,q.2] (.bl true)=(L++[q]).map λ s=>([s.1,s.2],D.bl true):=by
 unfold dput
 have:((L.map λ s=>([s.1,s.2],D.bl true)).any λ kv=>decide (kv.1=[q.1,q.2]))=false:=by
  rw [List.any_eq_false]
  intro x hx
  obtain⟨s,hs,rfl⟩:=List.mem_map.mp hx
  simp only [decide_eq_true_eq]
  intro e
  apply h
  have:s=q:=by
   rcases s with ⟨s1,s2⟩;rcases q with ⟨q1,q2⟩
   simpa using e
  rw [<-this];exact hs
 rw [this]
 simp
theorem Ad8:∀ (M L:List Sq),(L++M).Nodup->Acy (L.map λ s=>([s.1,s.2],D.bl true)) (M.map λ s=>([s.1,s.2],D.bl true))=(L++M).map λ s=>([s.1,s.2],D.bl true)
 | [],L,_=>by simp [Acy]
 | q :: M,L,h=>by
  have h1:q∉L:=λ hq=>by
   rw [List.nodup_append] at h
   exact h.2.2 q hq q (by simp) rfl
  show Acy (dput (L.map λ s=>([s.1,s.2],D.bl true)) [q.1,q.2] (.bl true)) (M.map λ s=>([s.1,s.2],D.bl true))=_
  rw [Ajm q L h1,Ad8 M (L++[q]) (by simpa using h)]
  simp
theorem Zv:∀ (L:List Sq),Rq (L.map λ s=>D.tup [dS s,.bl true])=some (L.map λ s=>([s.1,s.2],D.bl true))
 | []=>rfl
 | q :: L=>by
  rw [List.map_cons]
  unfold Rq
  rw [Zv L]
  rfl
theorem Aml (L:List Sq) (h:L.Nodup) (hl:L.length<=1000000):Wt (.lst (L.map λ s=>D.tup [dS s,.bl true]))=some (dD L):=by
 unfold Wt
 dsimp only
 rw [List.length_map,if_pos hl,Zv,Option.map_some]
 have:=Ad8 L [] (by simpa using h)
 simp only [List.map_nil,List.nil_append] at this
 rw [this]
theorem Agq {F:List Sq}(h:F.Pairwise Slt):∀ p∈F.zip (F.drop 1),Slt p.1 p.2:=by
 intro p hp
 obtain⟨i,hi,e⟩:=List.mem_iff_getElem.mp hp
 rw [List.pairwise_iff_getElem] at h
 simp at hi
 have:=h i (i+1) (by omega) (by omega) (by omega)
 rw [<-e]
 simp only [List.getElem_zip,List.getElem_drop,Nat.add_comm 1 i]
 exact this
noncomputable def Aek (a b c d:Int):List Sq:=(rng a b).flatMap λ r=>(rng c d).map λ k=>(r,k)
theorem Ny {a b c d:Int}{q:Sq}:q∈Aek a b c d ↔ a<=q.1/\q.1<b/\c<=q.2/\q.2<d:=by
 unfold Aek
 simp only [List.mem_flatMap,List.mem_map,Amx]
 constructor
 ·rintro⟨r,h,k,h',rfl⟩;exact⟨h.1,h.2,h'.1,h'.2⟩
 ·rintro⟨h1,h2,h3,h4⟩;exact⟨q.1,⟨h1,h2⟩,q.2,⟨h3,h4⟩,rfl⟩
theorem Qg (a b c d:Int):(Aek a b c d).Pairwise Slt:=by
 unfold Aek
 rw [List.pairwise_flatMap]
 constructor
 ·intro r hr
  rw [List.pairwise_map]
  exact (M8 c d).imp λ h=>.inr ⟨rfl,h⟩
 ·refine (M8 a b).imp λ {x y} h=>?_
  intro p hp q hq
  obtain⟨_,_,rfl⟩:=List.mem_map.mp hp
  obtain⟨_,_,rfl⟩:=List.mem_map.mp hq
  exact .inl h
theorem Qv (a b c d:Int):(Aek a b c d).length=(b-a).toNat * (d-c).toNat:=by
 unfold Aek
 rw [List.length_flatMap]
 simp only [List.length_map,J9,List.map_const',List.sum_replicate_nat]
theorem T9 {L:List Sq}(h:L.Nodup) (hi:∀ x∈L,InR x):L.length<=100:=by
 have:=G6 (l2:=Aek (-1) 9 (-1) 9) h λ x hx=>Ny.2 (by have:=hi x hx;unfold InR at this;omega)
 rw [Qv] at this
 exact this
structure Dfs (F R W:List Sq):Prop where
 nd:R.Nodup
 st:(-1,-1)∈R
 ok:∀ x∈R,Reach F x
 wr:∀ x∈W,x∈R
 wn:W.Nodup
 cl:∀ p∈R,p∉W->∀ q,Acq p q->q∉F->q∈R
theorem Dfs.wl {F R W:List Sq}(h:Dfs F R W):W.length<=100:=T9 h.wn λ x hx=>(h.ok x (h.wr x hx)).inR
noncomputable def rnd (q:Sq) (R:List Sq):Bool:=(rng (q.1-1) (q.1+2)).any λ r=>(rng (q.2-1) (q.2+2)).any λ c=>decide ((r,c)∈R)
structure Grow (F R:List Sq):Prop where
 nd:R.Nodup
 st:(-1,-1)∈R
 ok:∀ x∈R,Reach F x
noncomputable def outs (F:List Sq):List Sq:=(Aek (-1) 9 (-1) 9).filter λ q=>!(decide (q∈F))
theorem N5 {F:List Sq}{q:Sq}:q∈outs F ↔ InR q/\q∉F:=by
 unfold outs InR
 rw [List.mem_filter,Ny]
 simp
 omega
theorem Qi {α:Type}(p:α->Bool):∀ l:List α,l.length=(l.filter p).length+(l.filter λ x=>!(p x)).length
 | []=>rfl
 | x :: r=>by
  have:=Qi p r
  by_cases h:p x=true
  ·simp [h];omega
  ·have h:p x=false:=by simpa using h
   simp [h];omega
theorem Zo {F:List Sq}(hF:IsFloor F):(outs F).length+F.length=100:=by
 have h1:((Aek (-1) 9 (-1) 9).filter λ q=>decide (q∈F)).length=F.length:=by
  refine Vz ((Ed (Qg _ _ _ _)).filter _) (Ed hF.ord) λ x=>?_
  rw [List.mem_filter,Ny]
  simp
  intro hx
  have:=hF.on x hx
  unfold OnB at this
  omega
 have h2:=Qi (λ q=>decide (q∈F)) (Aek (-1) 9 (-1) 9)
 rw [Qv,h1] at h2
 unfold outs
 simp at h2 ⊢
 omega
@[simp] theorem Nh (a b:List D):Ew (.lst a) (.lst b)=if a.length+b.length<=1000000 then some (.lst (a++b)) else none:=rfl
theorem Ats {r:R Out}{E:Ev}{P:Ev->Prop}(hp:P E) (h:r=.ok (.nx E)):Goes r P:=by rw [h];exact hp
noncomputable def rows (pre:List Int):List Sq:=pre.flatMap λ r=>(rng (-1) 9).map λ c=>(r,c)
end M
namespace M
open PySem PySem.Spec PyProof.Rows L2
noncomputable def Sh:EX:=Ek (Ar0 (eCh fLe Anb (kE (.int 0)) (e2 fIx (vE 0) (kE (.int 0))) (kE (.int 8))) (eCh fLe Anb (kE (.int 0)) (e2 fIx (vE 0) (kE (.int 1))) (kE (.int 8))))
def G8:List D->R D:=den 1 Sh
noncomputable def Bq:EX:=xIf (calm (Abq (Ce (Am 1 G8 (Ab (vF 1) (Aw)))))) (Jh 0) (Eu)
noncomputable def Cw:EX:=xIf (calm (Abq (Ce (e2 fLt (vE 2) (vE 3))))) (Jh 0) (Eu)
noncomputable def Gx:EX:=Bc (U7 (iD (vF 0)) (gN 1) (Bq)) (U7 (iZ (vF 0) (eSl (vE 0) (Kg (kE (.int 1))) (Kf))) (gT 2 3) (Cw))
def Aq:List D->R D:=den 4 Gx
noncomputable def Aaa:EX:=Ek (e1 Wt (Hh [1] (gN 1) (iD (vF 0)) (Kh) (Gs (Ab (vF 1) (Ab (kE (.bl true)) (Aw))))))
def Fg:List D->R D:=den 2 Aaa
noncomputable def V7:EX:=Bc (Fx 2 (e2 fIx (vE 0) (kE (.int 0)))) (Bc (Fx 3 (e2 fIx (vE 0) (kE (.int 1)))) (Bc (Fx 4 (O8 (Ab (Gs (Ab (e2 Lw (vE 2) (kE (.int 1))) (Ab (vF 3) (Aw)))) (Ab (Gs (Ab (vF 2) (Ab (e2 Lw (vE 3) (kE (.int 1))) (Aw)))) (Ab (Gs (Ab (vF 2) (Ab (e2 Ew (vE 3) (kE (.int 1))) (Aw)))) (Ab (Gs (Ab (e2 Ew (vE 2) (kE (.int 1))) (Ab (vF 3) (Aw)))) (Aw))))))) (Ek (Hh [5] (gN 5) (iD (vF 4)) (Ce (e2 Age (vE 5) (vE 1))) (vF 5)))))
def Fq:List D->R D:=den 6 V7
noncomputable def Gw:EX:=Amw 1 (Gs (Ab (vF 2) (Ab (vF 3) (Aw))))
noncomputable def Gu:EX:=U7 (iR2 (e2 Anj (e2 Lw (e2 fIx (vE 0) (kE (.int 1))) (kE (.int 1))) (e1 Abi (kE (.int 1)))) (e2 Ew (e2 Aon (e2 Ew (e2 fIx (vE 0) (kE (.int 1))) (kE (.int 1))) (kE (.int 8))) (kE (.int 1)))) (gN 3) (Gw)
noncomputable def Km:EX:=Bc (Ack 1 (O8 (Aw))) (Bc (U7 (iR2 (e2 Anj (e2 Lw (e2 fIx (vE 0) (kE (.int 0))) (kE (.int 1))) (e1 Abi (kE (.int 1)))) (e2 Ew (e2 Aon (e2 Ew (e2 fIx (vE 0) (kE (.int 0))) (kE (.int 1))) (kE (.int 8))) (kE (.int 1)))) (gN 2) (Gu)) (Ag9 1 (Ek (vF 1))))
def Ec:List D->R D:=den 4 Km
noncomputable def Cg:EX:=xIf (Ajx (Ce (e2 Je (vE 5) (vE 0))) (Ce (e2 Je (vE 5) (vE 2)))) (Bc (Qe 2 (vE 5) (kE (.bl true))) (Amw 3 (vF 5))) (Eu)
noncomputable def Bo:Ev->R Bool:=Atp (vE 3)
noncomputable def Dk:EX:=Bc (Ard 3 4) (U7 (iD (Am 1 Ec (Ab (vF 4) (Aw)))) (gN 5) (Cg))
noncomputable def Ij:EX:=Bc (Fx 1 (Gs (Ab (e1 Abi (kE (.int 1))) (Ab (e1 Abi (kE (.int 1))) (Aw))))) (Bc (Ack 2 (eD1 (vF 1) (kE (.bl true)))) (Bc (Ack 3 (O8 (Ab (vF 1) (Aw)))) (Bc (Aa1 Bo Dk fuel) (Ag9 2 (Ek (vF 2))))))
def Ck:List D->R D:=den 6 Ij
noncomputable def R3:EX:=calm (Ek (e2 fEq (e2 Ew (e1 Yp (Am 1 Ck (Ab (Am 1 Fg (Ab (vF 0) (Aw))) (Aw)))) (e1 Yp (vE 0))) (kE (.int 100))))
noncomputable def R7:EX:=Bc (xDo (Am 1 Aq (calm (Ab (vF 0) (Aw))))) R3
def Bv:List D->R D:=den 1 R7
noncomputable def Wg:EX:=Bc (Fx 1 (e2 fIx (vE 0) (kE (.int 0)))) (Bc (Fx 2 (e2 fIx (vE 0) (kE (.int 1)))) (Ek (O8 (Ab (Gs (Ab (e2 Lw (vE 1) (kE (.int 1))) (Ab (e2 Lw (vE 2) (kE (.int 1))) (Aw)))) (Ab (Gs (Ab (e2 Lw (vE 1) (kE (.int 1))) (Ab (vF 2) (Aw)))) (Ab (Gs (Ab (vF 1) (Ab (e2 Lw (vE 2) (kE (.int 1))) (Aw)))) (Ab (Gs (Ab (vF 1) (Ab (vF 2) (Aw)))) (Aw))))))))
def Jg:List D->R D:=den 3 Wg
noncomputable def Ak2:EX:=Bc (calm (Fx 1 (Am 1 Fg (Ab (vF 0) (Aw))))) (calm (Ek (Hh [2] (gN 2) (iD (vF 0)) (Ce (e1 Akc (Hh [3] (gN 3) (iD (Am 1 Jg (Ab (vF 2) (Aw)))) (Kh) (e2 Age (vE 3) (vE 1))))) (vF 2))))
noncomputable def Amu:EX:=Bc (xDo (Am 1 Aq (calm (Ab (vF 0) (Aw))))) Ak2
def Fd:List D->R D:=den 4 Amu
noncomputable def O7:EX:=Bc (Fx 1 (e2 fIx (vE 0) (kE (.int 0)))) (Bc (Fx 2 (e2 fIx (vE 0) (kE (.int 1)))) (Bc (xIf (Ce (e2 fEq (e2 fIx (vE 0) (kE (.int 2))) (kE (.int 0)))) (Ek (O8 (Ab (Gs (Ab (vF 1) (Ab (vF 2) (Aw)))) (Ab (Gs (Ab (vF 1) (Ab (e2 Ew (vE 2) (kE (.int 1))) (Aw)))) (Aw))))) (Eu)) (Ek (O8 (Ab (Gs (Ab (vF 1) (Ab (vF 2) (Aw)))) (Ab (Gs (Ab (e2 Ew (vE 1) (kE (.int 1))) (Ab (vF 2) (Aw)))) (Aw)))))))
def Dm:List D->R D:=den 3 O7
noncomputable def Q6:EX:=Ek (e1 Akc (Hh [1,2] (gT 1 2) (iZ (vF 0) (eSl (vE 0) (Kg (kE (.int 1))) (Kf))) (Kh) (e2 fLt (eSl (vE 1) (Kf) (Kg (kE (.int 2)))) (eSl (vE 2) (Kf) (Kg (kE (.int 2)))))))
def G9:List D->R D:=den 3 Q6
noncomputable def Tv:EX:=Arv 1 (Am 1 Dm (Ab (vF 2) (Aw)))
noncomputable def Xz:EX:=Bc (Ack 1 (O8 (Aw))) (Bc (U7 (iD (vF 0)) (gN 2) (Tv)) (Ek (e1 Xy (vE 1))))
def J0:List D->R D:=den 3 Xz
noncomputable def Xf:EX:=Bc (calm (xIf (Abq (Ce (e1 Akc (Hh [2] (gN 2) (iD (vF 1)) (Kh) (e2 fIn (e2 fIx (vE 2) (kE (.int 2))) (Gs (Ab (kE (.int 0)) (Ab (kE (.int 1)) (Aw))))))))) (Ek (kE (.bl false))) (Eu))) (calm (Ek (Ar0 (Am 1 G9 (Ab (vF 1) (Aw))) (e2 fEq (Am 1 J0 (Ab (vF 1) (Aw))) (vE 0)))))
noncomputable def Xr:EX:=Bc (xDo (Am 1 Aq (calm (Ab (vF 0) (Aw))))) Xf
def Dc:List D->R D:=den 3 Xr
noncomputable def Rm:EX:=xIf (Abq (Ce (Am 2 Dc (calm (Ab (vF 0) (Ab (vF 1) (Aw))))))) (Jh 1) (Eu)
def Ao:List D->R D:=den 2 Rm
noncomputable def Adl:EX:=Ek (Hh [2] (gN 2) (iD (vF 0)) (Ce (e2 fEq (e2 Nb (e2 Ew (e2 fIx (vE 2) (kE (.int 0))) (e2 fIx (vE 2) (kE (.int 1)))) (kE (.int 2))) (vE 1))) (vF 2))
def Kd:List D->R D:=den 3 Adl
noncomputable def Us:EX:=Bc (Fx 1 (Am 2 Kd (Ab (vF 0) (Ab (kE (.int 0)) (Aw))))) (Bc (Fx 2 (Am 2 Kd (Ab (vF 0) (Ab (kE (.int 1)) (Aw))))) (Ek (eIf (Ce (e2 fGe (e1 Yp (vE 1)) (e1 Yp (vE 2)))) (vF 1) (vF 2))))
def Hv:List D->R D:=den 3 Us
noncomputable def Mq (rec:List D->Kvs->Kvs->R (D × Kvs × Kvs)):EX:=xIf (Ce (e2 Je (vE 4) (vE 3))) (Bc (Qe 3 (vE 4) (kE (.bl true))) (Ary (cOr (Ce (e2 Je (vE 4) (vE 2))) (Aij 2 3 4 rec (Ab (e2 Xl (vE 2) (vE 4)) (Ab (vF 1) (Agt 2 3))))) (Bc (Qe 2 (vE 4) (vF 0)) (Ain 2 (kE (.bl true)))) (Eu))) (Eu)
noncomputable def Jo (rec:List D->Kvs->Kvs->R (D × Kvs × Kvs)):EX:=Bc (U7 (iD (Am 2 Fq (Ab (vF 0) (Ab (vF 1) (Aw))))) (gN 4) (Mq rec)) (Ain 2 (kE (.bl false)))
noncomputable def Gh:Nat->List D->Kvs->Kvs->R (D × Kvs × Kvs)
 | 0=>λ _ _ _=>.no
 | n+1=>Ato 5 (Jo (Gh n))
noncomputable def Ep:List D->Kvs->Kvs->R (D × Kvs × Kvs):=Gh 34
noncomputable def X6:EX:=Ek (e1 Xy (e2 Ew (O8 (Ab (vF 0) (Aw))) (Hh [3] (gN 3) (iK (vF 2)) (Kh) (e2 Xl (vE 1) (vE 3)))))
def J8:List D->R D:=den 4 X6
noncomputable def Y9:EX:=Bc (Fx 2 (e2 Akf (vE 0) (vE 1))) (Ek (Gs (Ab (e2 fIx (vE 2) (kE (.int 0))) (Ab (e2 fIx (vE 2) (kE (.int 1))) (Ab (eIf (Ce (e2 fEq (e2 fIx (vE 0) (kE (.int 0))) (e2 fIx (vE 1) (kE (.int 0))))) (kE (.int 0)) (kE (.int 1))) (Aw))))))
def Jt:List D->R D:=den 3 Y9
noncomputable def Amm:EX:=Bc (Ack 4 (kE (.dic []))) (Ary (Aux (Aij 2 4 4 Ep (Ab (vF 3) (Ab (vF 1) (Agt 2 4))))) (Ag9 4 (Ag9 2 (Ek (Gs (Ab (kE (.str "wall")) (Ab (Am 3 J8 (Ab (vF 3) (Ab (vF 2) (Ab (vF 4) (Aw))))) (Aw))))))) (Eu))
noncomputable def Ast:EX:=Bc (calm (Fx 1 (Am 1 Fg (Ab (vF 0) (Aw))))) (Bc (calm (Ack 2 (kE (.dic [])))) (Bc (calm (U7 (iD (Am 1 Hv (Ab (vF 0) (Aw)))) (gN 3) (Amm))) (calm (Ag9 2 (Ek (Gs (Ab (kE (.str "laid")) (Ab (e1 Xy (Hh [5,3] (gT 5 3) (iDi (vF 2)) (Kh) (Am 2 Jt (Ab (vF 5) (Ab (vF 3) (Aw)))))) (Aw)))))))))
noncomputable def At2:EX:=Bc (xDo (Am 1 Aq (calm (Ab (vF 0) (Aw))))) Ast
def Vk:List D->R D:=den 6 At2
noncomputable def Aft:EX:=Bc (Fx 2 (e2 fIx (vE 0) (kE (.int 0)))) (Bc (Fx 3 (e2 fIx (vE 0) (kE (.int 1)))) (Bc (xIf (Ce (e2 fEq (vE 1) (kE (.int 0)))) (Ek (O8 (Ab (Gs (Ab (e2 Lw (vE 2) (kE (.int 1))) (Ab (e2 Lw (vE 3) (kE (.int 1))) (Ab (kE (.int 0)) (Aw))))) (Ab (Gs (Ab (vF 2) (Ab (e2 Lw (vE 3) (kE (.int 1))) (Ab (kE (.int 0)) (Aw))))) (Aw))))) (Eu)) (Ek (O8 (Ab (Gs (Ab (e2 Lw (vE 2) (kE (.int 1))) (Ab (e2 Lw (vE 3) (kE (.int 1))) (Ab (kE (.int 1)) (Aw))))) (Ab (Gs (Ab (e2 Lw (vE 2) (kE (.int 1))) (Ab (vF 3) (Ab (kE (.int 1)) (Aw))))) (Aw)))))))
def Gz:List D->R D:=den 4 Aft
noncomputable def Aay:EX:=Ek (e1 Akc (Hh [3] (gN 3) (iD (Am 2 Gz (Ab (vF 1) (Ab (vF 2) (Aw))))) (Kh) (e2 fIn (vE 3) (vE 0))))
def Gf:List D->R D:=den 4 Aay
noncomputable def Ajz:EX:=Bc (Fx 2 (e2 Lw (kE (.int 1)) (e2 Nb (e2 Ew (e2 fIx (vE 1) (kE (.int 0))) (e2 fIx (vE 1) (kE (.int 1)))) (kE (.int 2))))) (Bc (xIf (Ce (Am 3 Gf (Ab (vF 0) (Ab (vF 1) (Ab (vF 2) (Aw)))))) (Ek (kE (.int 1))) (Eu)) (Bc (xIf (Ce (Am 3 Gf (Ab (vF 0) (Ab (vF 1) (Ab (e2 Lw (kE (.int 1)) (vE 2)) (Aw)))))) (Ek (e1 Abi (kE (.int 1)))) (Eu)) (Ek (kE (.int 0)))))
def Ez:List D->R D:=den 3 Ajz
noncomputable def Xk:EX:=Bc (Fx 2 (eIf (Ce (Am 3 Gf (Ab (vF 0) (Ab (vF 1) (Ab (kE (.int 0)) (Aw)))))) (kE (.int 0)) (kE (.int 1)))) (Bc (Fx 3 (Am 2 Gz (Ab (vF 1) (Ab (vF 2) (Aw))))) (Ek (e1 Xy (e2 Ew (Hh [4] (gN 4) (iD (vF 0)) (Ce (e2 Rw (vE 4) (vE 3))) (vF 4)) (Am 2 Gz (Ab (vF 1) (Ab (e2 Lw (kE (.int 1)) (vE 2)) (Aw))))))))
def Eh:List D->R D:=den 5 Xk
noncomputable def W4:EX:=xIf (calm (Ce (e2 fEq (Am 2 Ez (Ab (vF 0) (Ab (vF 1) (Aw)))) (kE (.int 0))))) (Jh 3) (Eu)
def Fv:List D->R D:=den 2 W4
noncomputable def Ae4:EX:=calm (Ek (Hh [2] (gN 2) (iD (Am 1 (Qy Fd) (Ab (vF 0) (Aw)))) (Ce (e2 fNe (Am 2 Ez (Ab (vF 1) (Ab (vF 2) (Aw)))) (kE (.int 0)))) (vF 2)))
noncomputable def Afn:EX:=Bc (xDo (Am 2 Ao (calm (Ab (vF 0) (Ab (vF 1) (Aw)))))) Ae4
def Ih:List D->R D:=den 3 Afn
noncomputable def Aib:EX:=Bc (xDo (Am 2 Fv (calm (Ab (vF 1) (Ab (vF 2) (Aw)))))) (calm (Ek (Am 2 Eh (Ab (vF 1) (Ab (vF 2) (Aw))))))
noncomputable def Ahu:EX:=Bc (xDo (Am 2 Ao (calm (Ab (vF 0) (Ab (vF 1) (Aw)))))) Aib
def Jp:List D->R D:=den 3 Ahu
noncomputable def Al3:EX:=Bc (xDo (Am 2 Fv (calm (Ab (vF 1) (Ab (vF 2) (Aw)))))) (calm (Ek (e2 fEq (Am 2 Ez (Ab (vF 1) (Ab (vF 2) (Aw)))) (kE (.int 1)))))
noncomputable def Al2:EX:=Bc (xDo (Am 2 Ao (calm (Ab (vF 0) (Ab (vF 1) (Aw)))))) Al3
def Lg:List D->R D:=den 3 Al2
noncomputable def Uw:EX:=xIf (Abq (Ce (Am 1 Bv (calm (Ab (vF 0) (Aw)))))) (Jh 2) (Eu)
def Cq:List D->R D:=den 1 Uw
noncomputable def Xm:EX:=xDo (Am 2 Ao (calm (Ab (vF 0) (Ab (vF 1) (Aw)))))
noncomputable def Xp:EX:=Bc (xDo (Am 1 Cq (calm (Ab (vF 0) (Aw))))) Xm
def Eb:List D->R D:=den 2 Xp
noncomputable def Vx:EX:=Bc (xDo (Am 2 Ao (calm (Ab (vF 0) (Ab (vF 1) (Aw)))))) (xDo (Am 2 Ao (calm (Ab (vF 0) (Ab (vF 2) (Aw))))))
noncomputable def Wx:EX:=Bc (xDo (Am 1 Cq (calm (Ab (vF 0) (Aw))))) Vx
def Bm:List D->R D:=den 3 Wx
noncomputable def Abk:EX:=Bc (Fx 3 (Gs (Ab (e2 Lw (e2 fIx (vE 0) (kE (.int 0))) (kE (.int 1))) (Ab (e2 Lw (e2 fIx (vE 0) (kE (.int 1))) (kE (.int 1))) (Ab (kE (.int 1)) (Aw)))))) (Bc (Fx 4 (kE (.int 0))) (Bc (xIf (Ce (e2 fIn (vE 3) (vE 1))) (Fx 4 (e2 Ew (vE 4) (kE (.int 1)))) (Eu)) (Bc (xIf (Ce (e2 fIn (vE 3) (vE 2))) (Fx 4 (e2 Lw (vE 4) (kE (.int 1)))) (Eu)) (Ek (eIf (Ce (e2 fEq (e2 Nb (e2 Ew (e2 fIx (vE 0) (kE (.int 0))) (e2 fIx (vE 0) (kE (.int 1)))) (kE (.int 2))) (kE (.int 0)))) (vF 4) (e1 Abi (vE 4)))))))
def Ky:List D->R D:=den 5 Abk
noncomputable def Mv:EX:=Bc (Fx 5 (At8 (vE 3) (Gs (Ab (e2 fIx (vE 4) (kE (.int 0))) (Ab (e2 Lw (e2 fIx (vE 4) (kE (.int 1))) (kE (.int 1))) (Aw)))) (kE (.int 0)))) (Qe 3 (vE 4) (e2 Ew (vE 5) (Am 3 Ky (Ab (vF 4) (Ab (vF 1) (Ab (vF 2) (Aw)))))))
noncomputable def Qh:EX:=Bc (Ack 3 (kE (.dic []))) (Bc (U7 (iD (Am 1 (Qy Fd) (Ab (vF 0) (Aw)))) (gN 4) (Mv)) (Ag9 3 (Ek (vF 3))))
def Bk:List D->R D:=den 6 Qh
noncomputable def Aj9:EX:=Bc (Fx 7 (Am 2 Ez (Ab (vF 2) (Ab (vF 6) (Aw))))) (xIf (Ce (e2 fGt (e2 Am8 (vE 7) (e2 Xl (vE 3) (vE 6))) (kE (.int 0)))) (Bc (Fx 2 (Am 2 Eh (Ab (vF 2) (Ab (vF 6) (Aw))))) (Bc (Qe 3 (vE 6) (e2 Lw (e2 Xl (vE 3) (vE 6)) (vE 7))) (Amw 4 (vF 6)))) (Eu))
noncomputable def Al1:Ev->R Bool:=Ce (Acu 3 (e1 Arp (Hh [5] (gN 5) (iDv (vF 3)) (Kh) (e2 fNe (vE 5) (kE (.int 0))))))
noncomputable def Alx:EX:=U7 (iK (vF 1)) (gN 6) (Aj9)
noncomputable def Ath:EX:=Bc (Fx 2 (e1 V3 (vE 0))) (Bc (Ack 3 (e1 Aaq (vE 1))) (Bc (Ack 4 (O8 (Aw))) (Bc (Aa1 Al1 Alx fuel) (Ag9 4 (Ek (Gs (Ab (vF 4) (Ab (vF 2) (Aw)))))))))
def O1:List D->R D:=den 8 Ath
noncomputable def Rb:EX:=xIf (Ce (e2 fEq (Am 2 Ez (Ab (vF 3) (Ab (vF 5) (Aw)))) (vE 2))) (Bc (Fx 3 (Am 2 Eh (Ab (vF 3) (Ab (vF 5) (Aw))))) (Fx 4 (kE (.bl true)))) (Eu)
noncomputable def Q5:Ev->R Bool:=Ce (vE 4)
noncomputable def Q9:EX:=Bc (Fx 4 (kE (.bl false))) (U7 (iD (Am 1 (Qy Fd) (Ab (vF 0) (Aw)))) (gN 5) (Rb))
noncomputable def Vf:EX:=Bc (Fx 3 (e1 V3 (vE 1))) (Bc (Fx 4 (kE (.bl true))) (Bc (Aa1 Q5 Q9 fuel) (Ek (vF 3))))
def Fi:List D->R D:=den 6 Vf
noncomputable def Ai9:EX:=calm (Ek (Hh [3,4] (gT 3 4) (iDi (Am 3 Bk (Ab (vF 0) (Ab (vF 1) (Ab (vF 2) (Aw)))))) (Kh) (Gs (Ab (e2 fIx (vE 3) (kE (.int 0))) (Ab (e2 fIx (vE 3) (kE (.int 1))) (Ab (vF 4) (Aw)))))))
noncomputable def Ap9:EX:=Bc (xDo (Am 3 Bm (calm (Ab (vF 0) (Ab (vF 1) (Ab (vF 2) (Aw))))))) Ai9
def O4:List D->R D:=den 5 Ap9
noncomputable def An1:EX:=calm (Ek (e2 fIx (Am 2 O1 (Ab (vF 1) (Ab (Am 3 Bk (Ab (vF 0) (Ab (vF 1) (Ab (vF 2) (Aw))))) (Aw)))) (kE (.int 0))))
noncomputable def Asm:EX:=Bc (xDo (Am 3 Bm (calm (Ab (vF 0) (Ab (vF 1) (Ab (vF 2) (Aw))))))) An1
def Wo:List D->R D:=den 3 Asm
noncomputable def Af9:EX:=Bc (calm (Fx 3 (Am 3 Bk (Ab (vF 0) (Ab (vF 1) (Ab (vF 2) (Aw))))))) (calm (Ek (e2 fIx (Am 2 O1 (Ab (vF 1) (Ab (e1 Wt (Hh [4,5] (gT 4 5) (iDi (vF 3)) (Kh) (Gs (Ab (vF 4) (Ab (e2 Anj (vE 5) (kE (.int 0))) (Aw)))))) (Aw)))) (kE (.int 1)))))
noncomputable def m_upper:EX:=Bc (xDo (Am 3 Bm (calm (Ab (vF 0) (Ab (vF 1) (Ab (vF 2) (Aw))))))) Af9
def Lk:List D->R D:=den 6 m_upper
noncomputable def Aeg:EX:=Bc (calm (Fx 3 (Am 3 Bk (Ab (vF 0) (Ab (vF 1) (Ab (vF 2) (Aw))))))) (calm (Ek (e2 fIx (Am 2 O1 (Ab (vF 1) (Ab (e1 Wt (Hh [4,5] (gT 4 5) (iDi (vF 3)) (Kh) (Gs (Ab (vF 4) (Ab (e2 Aon (vE 5) (kE (.int 0))) (Aw)))))) (Aw)))) (kE (.int 1)))))
noncomputable def m_lower:EX:=Bc (xDo (Am 3 Bm (calm (Ab (vF 0) (Ab (vF 1) (Ab (vF 2) (Aw))))))) Aeg
def La:List D->R D:=den 6 m_lower
noncomputable def Vt:EX:=calm (Ek (Am 3 Fi (Ab (vF 0) (Ab (vF 1) (Ab (kE (.int 1)) (Aw))))))
noncomputable def Af4:EX:=Bc (xDo (Am 2 Eb (calm (Ab (vF 0) (Ab (vF 1) (Aw)))))) Vt
def Ib:List D->R D:=den 2 Af4
noncomputable def Zm:EX:=calm (Ek (Am 3 Fi (Ab (vF 0) (Ab (vF 1) (Ab (e1 Abi (kE (.int 1))) (Aw))))))
noncomputable def Ahf:EX:=Bc (xDo (Am 2 Eb (calm (Ab (vF 0) (Ab (vF 1) (Aw)))))) Zm
def J3:List D->R D:=den 2 Ahf
noncomputable def Ad6:EX:=Ek (e1 Aro (Hh [1] (gN 1) (iD (vF 0)) (Kh) (e2 Aru (kE (.int 1)) (e2 Ew (e2 Am8 (kE (.int 9)) (e2 fIx (vE 1) (kE (.int 0)))) (e2 fIx (vE 1) (kE (.int 1)))))))
def Ei:List D->R D:=den 2 Ad6
noncomputable def Apb:EX:=calm (Ek (Aoo 12 (Am 1 Ei (Ab (vF 0) (Aw)))))
noncomputable def Aoi:EX:=Bc (xDo (Am 1 Aq (calm (Ab (vF 0) (Aw))))) Apb
def Pb:List D->R D:=den 1 Aoi
noncomputable def Kp:List D->R D:=dT Aq Ei
noncomputable def Cy:List D->R D:=dN Ao Ei
noncomputable def Yb:EX:=Qe 1 (vE 3) (vF 4)
noncomputable def Yi:EX:=U7 (iZs (Am 1 Dm (Ab (vF 2) (Aw))) (e2 fIx (vE 2) (kE (.int 2)))) (gT 3 4) (Yb)
noncomputable def Yu:EX:=Amw 5 (Alm "" (Hh [7] (gN 7) (iR1 (kE (.int 8))) (Kh) (At8 (vE 1) (Gs (Ab (vF 6) (Ab (vF 7) (Aw)))) (kE (.str ".")))))
noncomputable def Afc:EX:=Bc (Ack 1 (kE (.dic []))) (Bc (U7 (iD (vF 0)) (gN 2) (Yi)) (Bc (Ack 5 (O8 (Aw))) (Bc (U7 (iR1 (kE (.int 8))) (gN 6) (Yu)) (Ek (Alm "\n" (vE 5))))))
def Mi:List D->R D:=den 8 Afc
noncomputable def Ak1:EX:=calm (Ek (Am 1 Mi (Ab (vF 1) (Aw))))
noncomputable def Akt:EX:=Bc (xDo (Am 2 Ao (calm (Ab (vF 0) (Ab (vF 1) (Aw)))))) Ak1
def K9:List D->R D:=den 2 Akt
noncomputable def Lq:EX:=Bc (xIf (Ce (e2 fLt (vE 1) (e1 Yp (vE 0)))) (Ek (e2 fIx (vE 0) (vE 1))) (Eu)) (Ek (kE (.int 0)))
def Ar:List D->R D:=den 2 Lq
noncomputable def Ab2:EX:=Bc (xIf (Ce (vE 2)) (Bc (Fx 3 (O8 (Ab (Gs (Ab (vF 0) (Ab (vF 1) (Ab (kE (.int 0)) (Aw))))) (Ab (Gs (Ab (vF 0) (Ab (e2 Ew (vE 1) (kE (.int 2))) (Ab (kE (.int 1)) (Aw))))) (Ab (Gs (Ab (e2 Ew (vE 0) (kE (.int 1))) (Ab (vF 1) (Ab (kE (.int 1)) (Aw))))) (Ab (Gs (Ab (e2 Ew (vE 0) (kE (.int 2))) (Ab (e2 Ew (vE 1) (kE (.int 1))) (Ab (kE (.int 0)) (Aw))))) (Aw))))))) (Ek (Gs (Ab (Hh [4] (gN 4) (iR1 (kE (.int 9))) (Ce (e2 fNe (vE 4) (kE (.int 4)))) (Gs (Ab (e2 Ew (vE 0) (e2 Aix (vE 4) (kE (.int 3)))) (Ab (e2 Ew (vE 1) (e2 Nb (vE 4) (kE (.int 3)))) (Aw))))) (Ab (vF 3) (Aw)))))) (Eu)) (Bc (Fx 5 (O8 (Ab (Gs (Ab (vF 0) (Ab (vF 1) (Aw)))) (Ab (Gs (Ab (vF 0) (Ab (e2 Ew (vE 1) (kE (.int 1))) (Aw)))) (Ab (Gs (Ab (e2 Ew (vE 0) (kE (.int 1))) (Ab (vF 1) (Aw)))) (Ab (Gs (Ab (e2 Ew (vE 0) (kE (.int 1))) (Ab (e2 Ew (vE 1) (kE (.int 1))) (Aw)))) (Aw))))))) (Ek (Gs (Ab (vF 5) (Ab (O8 (Ab (Gs (Ab (vF 0) (Ab (vF 1) (Ab (kE (.int 0)) (Aw))))) (Ab (Gs (Ab (e2 Ew (vE 0) (kE (.int 1))) (Ab (vF 1) (Ab (kE (.int 0)) (Aw))))) (Aw)))) (Aw))))))
def Iu:List D->R D:=den 6 Ab2
noncomputable def M7:EX:=Bc (Fx 2 (e2 Nb (e2 Aix (vE 1) (kE (.int 56))) (e2 Apv (kE (.int 10)) (kE (.int 30))))) (Bc (Fx 3 (e2 Nb (e2 Aix (vE 1) (kE (.int 7))) (e1 Yp (vE 0)))) (Bc (xIf (Ce (e2 fEq (e2 Nb (vE 1) (kE (.int 7))) (kE (.int 1)))) (Ek (e2 Ew (eSl (vE 0) (Kf) (Kg (e2 Ew (vE 3) (kE (.int 1))))) (eSl (vE 0) (Kg (vE 3)) (Kf)))) (Eu)) (Bc (xIf (Ce (e2 fEq (e2 Nb (vE 1) (kE (.int 7))) (kE (.int 2)))) (Ek (e2 Ew (eSl (vE 0) (Kg (kE (.int 1))) (Kf)) (eSl (vE 0) (Kf) (Kg (kE (.int 1)))))) (Eu)) (Bc (xIf (Ce (e2 fEq (e2 Nb (vE 1) (kE (.int 7))) (kE (.int 3)))) (Ek (e2 Ew (O8 (Ab (e2 fIx (O8 (Ab (Gs (Ab (e2 Lw (e1 Abi (kE (.int 1))) (vE 2)) (Ab (kE (.int 0)) (Aw)))) (Ab (Gs (Ab (kE (.int 0)) (Ab (e2 Lw (e1 Abi (kE (.int 1))) (vE 2)) (Aw)))) (Aw)))) (e2 Nb (vE 3) (kE (.int 2)))) (Aw))) (vE 0))) (Eu)) (Bc (xIf (Ce (e2 fEq (e2 Nb (vE 1) (kE (.int 7))) (kE (.int 4)))) (Ek (e2 Ew (vE 0) (O8 (Ab (e2 fIx (O8 (Ab (Gs (Ab (e2 Ew (kE (.int 8)) (vE 2)) (Ab (kE (.int 0)) (Aw)))) (Ab (Gs (Ab (kE (.int 7)) (Ab (e2 Ew (kE (.int 8)) (vE 2)) (Aw)))) (Aw)))) (e2 Nb (vE 3) (kE (.int 2)))) (Aw))))) (Eu)) (Bc (Fx 4 (e2 Nb (e2 Aix (vE 1) (kE (.int 7))) (e2 Lw (e1 Yp (vE 0)) (kE (.int 1))))) (Bc (Fx 5 (O8 (Ab (e2 fIx (vE 0) (e2 Ew (vE 4) (kE (.int 1)))) (Ab (e2 fIx (vE 0) (vE 4)) (Aw))))) (Bc (xIf (Ce (e2 fEq (e2 Nb (vE 1) (kE (.int 7))) (kE (.int 5)))) (Ek (e2 Ew (e2 Ew (eSl (vE 0) (Kf) (Kg (vE 4))) (vE 5)) (eSl (vE 0) (Kg (e2 Ew (vE 4) (kE (.int 2)))) (Kf)))) (Eu)) (Bc (xIf (Ce (e2 fEq (e2 Nb (vE 1) (kE (.int 7))) (kE (.int 6)))) (Ek (e2 Ew (e2 Ew (eSl (vE 0) (Kf) (Kg (e2 Ew (vE 4) (kE (.int 2))))) (O8 (Ab (e2 fIx (vE 0) (vE 4)) (Aw)))) (eSl (vE 0) (Kg (e2 Ew (vE 4) (kE (.int 2)))) (Kf)))) (Eu)) (Ek (vF 0)))))))))))
def Dg:List D->R D:=den 6 M7
noncomputable def Zc:EX:=Bc (xIf (calm (Ce (e2 fEq (vE 0) (kE (.int 0))))) (xDo (Am 1 Bv (calm (Ab (vF 1) (Aw))))) (Eu)) (Bc (xIf (calm (Ce (e2 fEq (vE 0) (kE (.int 1))))) (xDo (Am 1 Fd (calm (Ab (vF 1) (Aw))))) (Eu)) (Bc (xIf (calm (Ce (e2 fEq (vE 0) (kE (.int 2))))) (xDo (Am 2 Dc (calm (Ab (vF 1) (Ab (vF 2) (Aw)))))) (Eu)) (Bc (xIf (calm (Ce (e2 fEq (vE 0) (kE (.int 3))))) (xDo (Am 1 Vk (calm (Ab (vF 1) (Aw))))) (Eu)) (Bc (xIf (calm (Ce (e2 fEq (vE 0) (kE (.int 4))))) (xDo (Am 1 Pb (calm (Ab (vF 1) (Aw))))) (Eu)) (Bc (xIf (calm (Ce (e2 fEq (vE 0) (kE (.int 5))))) (xDo (Am 2 Kp (calm (Ab (vF 1) (Ab (vF 3) (Aw)))))) (Eu)) (Bc (xIf (calm (Ce (e2 fEq (vE 0) (kE (.int 6))))) (xDo (Am 2 Cy (calm (Ab (vF 1) (Ab (vF 2) (Aw)))))) (Eu)) (xIf (calm (Ce (e2 fEq (vE 0) (kE (.int 7))))) (xDo (Am 2 K9 (calm (Ab (vF 1) (Ab (vF 2) (Aw)))))) (Eu))))))))
def Gn:List D->R D:=den 4 Zc
noncomputable def Aa8:EX:=Bc (xIf (calm (Ce (e2 fEq (vE 0) (kE (.int 8))))) (xDo (Am 2 Ih (calm (Ab (vF 1) (Ab (vF 2) (Aw)))))) (Eu)) (Bc (xIf (calm (Ce (e2 fEq (vE 0) (kE (.int 9))))) (xDo (Am 3 Jp (calm (Ab (vF 1) (Ab (vF 2) (Ab (vF 4) (Aw))))))) (Eu)) (Bc (xIf (calm (Ce (e2 fEq (vE 0) (kE (.int 10))))) (xDo (Am 3 Lg (calm (Ab (vF 1) (Ab (vF 2) (Ab (vF 4) (Aw))))))) (Eu)) (Bc (xIf (calm (Ce (e2 fEq (vE 0) (kE (.int 11))))) (xDo (Am 3 O4 (calm (Ab (vF 1) (Ab (vF 2) (Ab (vF 3) (Aw))))))) (Eu)) (Bc (xIf (calm (Ce (e2 fEq (vE 0) (kE (.int 12))))) (xDo (Am 3 Wo (calm (Ab (vF 1) (Ab (vF 2) (Ab (vF 3) (Aw))))))) (Eu)) (Bc (xIf (calm (Ce (e2 fEq (vE 0) (kE (.int 13))))) (xDo (Am 3 Lk (calm (Ab (vF 1) (Ab (vF 2) (Ab (vF 3) (Aw))))))) (Eu)) (Bc (xIf (calm (Ce (e2 fEq (vE 0) (kE (.int 14))))) (xDo (Am 3 La (calm (Ab (vF 1) (Ab (vF 2) (Ab (vF 3) (Aw))))))) (Eu)) (Bc (xIf (calm (Ce (e2 fEq (vE 0) (kE (.int 15))))) (xDo (Am 2 Ib (calm (Ab (vF 1) (Ab (vF 2) (Aw)))))) (Eu)) (xIf (calm (Ce (e2 fEq (vE 0) (kE (.int 16))))) (xDo (Am 2 J3 (calm (Ab (vF 1) (Ab (vF 2) (Aw)))))) (Eu)))))))))
def Hf:List D->R D:=den 5 Aa8
noncomputable def Et:Nat->Option D
 | 0=>some (.int 1)
 | 1=>some (.int 3)
 | 2=>some (.int 2)
 | 3=>some (.int 5)
 | 4=>some (.int 4)
 | _=>none
theorem Ol {c:Nat}{d:D}(h:Et c=some d):c=0/\d=.int 1\/c=1/\d=.int 3\/c=2/\d=.int 2\/c=3/\d=.int 5\/c=4/\d=.int 4:=by
 unfold Et at h
 split at h<;>first|(cases h;simp)|cases h
noncomputable def Om:EX:=Bc (Fx 6 (kE .non)) (Am5 (xDo (Am 4 Gn (calm (Ab (vF 0) (Ab (vF 1) (Ab (vF 2) (Ab (vF 4) (Aw)))))))) (xDo (Am 5 Hf (calm (Ab (vF 0) (Ab (vF 1) (Ab (vF 2) (Ab (vF 3) (Ab (vF 5) (Aw))))))))) (Bc (xIf (Ce (e1 Arj (vE 6))) (Ek (kE (.int 0))) Eu) Ry) Et)
def Es:List D->R D:=den 9 Om
noncomputable def Adp:EX:=Bc (xIf (Ce (vE 1)) (Ek (kE (.int 1))) (Eu)) (Bc (xIf (Ajx (Ce (vE 2)) (Ce (e2 fGt (vE 0) (kE (.int 10))))) (Ek (kE (.int 2))) (Eu)) (Bc (xIf (bOr (Ajx (Ce (e2 fEq (vE 3) (kE (.int 1)))) (Ce (e2 fGt (vE 0) (kE (.int 5))))) (Ajx (Ce (e2 fEq (vE 3) (kE (.int 2)))) (Ce (eCh Anb Anb (kE (.int 10)) (vE 0) (kE (.int 15)))))) (Ek (kE (.int 3))) (Eu)) (Bc (xIf (Ajx (Ce (e2 fEq (vE 0) (kE (.int 5)))) (Ce (vE 4))) (Ek (kE (.int 4))) (Eu)) (Bc (xIf (Ajx (bOr (Ce (e2 fEq (vE 0) (kE (.int 9)))) (Ce (e2 fEq (vE 0) (kE (.int 10))))) (bOr (Ce (vE 4)) (Ce (vE 2)))) (Ek (kE (.int 5))) (Eu)) (Ek (kE (.int 0)))))))
def Ik:List D->R D:=den 5 Adp
noncomputable def Aqb:EX:=Bc (Fx 1 (e2 Nb (Am 2 Ar (Ab (vF 0) (Ab (kE (.int 0)) (Aw)))) (kE (.int 17)))) (Bc (Fx 2 (e2 fEq (e2 Nb (Am 2 Ar (Ab (vF 0) (Ab (kE (.int 3)) (Aw)))) (kE (.int 3))) (kE (.int 1)))) (Bc (Fx 3 (Am 3 Iu (Ab (e2 Nb (Am 2 Ar (Ab (vF 0) (Ab (kE (.int 1)) (Aw)))) (kE (.int 6))) (Ab (e2 Nb (Am 2 Ar (Ab (vF 0) (Ab (kE (.int 2)) (Aw)))) (kE (.int 6))) (Ab (vF 2) (Aw)))))) (Bc (Fx 4 (Am 2 Ar (Ab (vF 0) (Ab (kE (.int 4)) (Aw))))) (Bc (Fx 5 (Am 2 Dg (Ab (e2 fIx (vE 3) (kE (.int 0))) (Ab (vF 4) (Aw))))) (Bc (Fx 6 (e1 V3 (e2 fIx (vE 3) (kE (.int 1))))) (Bc (Fx 7 (e1 V3 (e2 fIx (vE 3) (kE (.int 1))))) (Bc (Fx 8 (e2 Nb (Am 2 Ar (Ab (vF 0) (Ab (kE (.int 5)) (Aw)))) (kE (.int 4)))) (Bc (xIf (Ce (e2 fEq (vE 8) (kE (.int 1)))) (Fx 6 (eSl (vE 6) (Kg (kE (.int 1))) (Kf))) (Eu)) (Bc (xIf (Ce (e2 fEq (vE 8) (kE (.int 2)))) (Fx 7 (eSl (vE 7) (Kf) (Kg (e1 Abi (kE (.int 1)))))) (Eu)) (Bc (Fx 9 (e2 fEq (e2 Nb (Am 2 Ar (Ab (vF 0) (Ab (kE (.int 6)) (Aw)))) (kE (.int 2))) (kE (.int 1)))) (Bc (Fx 10 (kE (.int 0))) (Bc (Fx 11 (Gs (Ab (e2 Ew (e2 fIx (e2 fIx (e2 fIx (vE 3) (kE (.int 0))) (kE (.int 0))) (kE (.int 0))) (kE (.int 1))) (Ab (e2 Ew (e2 fIx (e2 fIx (e2 fIx (vE 3) (kE (.int 0))) (kE (.int 0))) (kE (.int 1))) (kE (.int 1))) (Aw))))) (Bc (xIf (Ce (vE 9)) (Bc (Fx 10 (e1 Abi (kE (.int 1)))) (Fx 11 (Gs (Ab (kE (.int 0)) (Ab (kE (.int 0)) (Aw)))))) (Eu)) (Bc (Fx 12 (Am 5 Ik (Ab (vF 1) (Ab (e2 fGt (e2 Nb (vE 4) (kE (.int 7))) (kE (.int 0))) (Ab (vF 2) (Ab (vF 8) (Ab (vF 9) (Aw)))))))) (Ek (e2 fEq (Am 6 Es (Ab (vF 1) (Ab (vF 5) (Ab (vF 6) (Ab (vF 7) (Ab (vF 10) (Ab (vF 11) (Aw)))))))) (vE 12)))))))))))))))))
def M6:List D->R D:=den 13 Aqb
end M
set_option maxHeartbeats 1000000
namespace M
open PySem PySem.Spec PyProof.Rows L2 Ma
@[simp high] theorem Axe (d:D) (r:Ev):vE 0 (.fz d :: r)=.ok d:=rfl
@[simp high] theorem Ay1 (d:D) (r:Ev):vF 0 (.fz d :: r)=.ok d:=rfl
@[simp high] theorem Awz (x0:Sl) (d:D) (r:Ev):vE 1 (x0 :: .fz d :: r)=.ok d:=rfl
@[simp high] theorem Ayr (x0:Sl) (d:D) (r:Ev):vF 1 (x0 :: .fz d :: r)=.ok d:=rfl
@[simp high] theorem Ayj (x0 x1:Sl) (d:D) (r:Ev):vE 2 (x0 :: x1 :: .fz d :: r)=.ok d:=rfl
@[simp high] theorem Axa (x0 x1:Sl) (d:D) (r:Ev):vF 2 (x0 :: x1 :: .fz d :: r)=.ok d:=rfl
@[simp high] theorem Axc (x0 x1 x2:Sl) (d:D) (r:Ev):vE 3 (x0 :: x1 :: x2 :: .fz d :: r)=.ok d:=rfl
@[simp high] theorem Ayh (x0 x1 x2:Sl) (d:D) (r:Ev):vF 3 (x0 :: x1 :: x2 :: .fz d :: r)=.ok d:=rfl
@[simp high] theorem Axs (x0 x1 x2 x3:Sl) (d:D) (r:Ev):vE 4 (x0 :: x1 :: x2 :: x3 :: .fz d :: r)=.ok d:=rfl
@[simp high] theorem Axh (x0 x1 x2 x3:Sl) (d:D) (r:Ev):vF 4 (x0 :: x1 :: x2 :: x3 :: .fz d :: r)=.ok d:=rfl
@[simp high] theorem Aw5 (x0 x1 x2 x3 x4:Sl) (d:D) (r:Ev):vE 5 (x0 :: x1 :: x2 :: x3 :: x4 :: .fz d :: r)=.ok d:=rfl
@[simp high] theorem Ax8 (x0 x1 x2 x3 x4:Sl) (d:D) (r:Ev):vF 5 (x0 :: x1 :: x2 :: x3 :: x4 :: .fz d :: r)=.ok d:=rfl
@[simp high] theorem Ax4 (x0 x1 x2 x3 x4 x5:Sl) (d:D) (r:Ev):vE 6 (x0 :: x1 :: x2 :: x3 :: x4 :: x5 :: .fz d :: r)=.ok d:=rfl
@[simp high] theorem Aya (x0 x1 x2 x3 x4 x5:Sl) (d:D) (r:Ev):vF 6 (x0 :: x1 :: x2 :: x3 :: x4 :: x5 :: .fz d :: r)=.ok d:=rfl
@[simp high] theorem Aym (x0 x1 x2 x3 x4 x5 x6:Sl) (d:D) (r:Ev):vE 7 (x0 :: x1 :: x2 :: x3 :: x4 :: x5 :: x6 :: .fz d :: r)=.ok d:=rfl
@[simp high] theorem Awn (x0 x1 x2 x3 x4 x5 x6:Sl) (d:D) (r:Ev):vF 7 (x0 :: x1 :: x2 :: x3 :: x4 :: x5 :: x6 :: .fz d :: r)=.ok d:=rfl
@[simp high] theorem Axt (x0 x1 x2 x3 x4 x5 x6 x7:Sl) (d:D) (r:Ev):vE 8 (x0 :: x1 :: x2 :: x3 :: x4 :: x5 :: x6 :: x7 :: .fz d :: r)=.ok d:=rfl
@[simp high] theorem Awt (x0 x1 x2 x3 x4 x5 x6 x7:Sl) (d:D) (r:Ev):vF 8 (x0 :: x1 :: x2 :: x3 :: x4 :: x5 :: x6 :: x7 :: .fz d :: r)=.ok d:=rfl
@[simp high] theorem Awy (x0 x1 x2 x3 x4 x5 x6 x7 x8:Sl) (d:D) (r:Ev):vE 9 (x0 :: x1 :: x2 :: x3 :: x4 :: x5 :: x6 :: x7 :: x8 :: .fz d :: r)=.ok d:=rfl
@[simp high] theorem Awp (x0 x1 x2 x3 x4 x5 x6 x7 x8:Sl) (d:D) (r:Ev):vF 9 (x0 :: x1 :: x2 :: x3 :: x4 :: x5 :: x6 :: x7 :: x8 :: .fz d :: r)=.ok d:=rfl
@[simp high] theorem Avx (x0 x1 x2 x3 x4 x5 x6 x7 x8 x9:Sl) (d:D) (r:Ev):vE 10 (x0 :: x1 :: x2 :: x3 :: x4 :: x5 :: x6 :: x7 :: x8 :: x9 :: .fz d :: r)=.ok d:=rfl
@[simp high] theorem Awc (x0 x1 x2 x3 x4 x5 x6 x7 x8 x9:Sl) (d:D) (r:Ev):vF 10 (x0 :: x1 :: x2 :: x3 :: x4 :: x5 :: x6 :: x7 :: x8 :: x9 :: .fz d :: r)=.ok d:=rfl
@[simp high] theorem Avi (x0 x1 x2 x3 x4 x5 x6 x7 x8 x9 x10:Sl) (d:D) (r:Ev):vE 11 (x0 :: x1 :: x2 :: x3 :: x4 :: x5 :: x6 :: x7 :: x8 :: x9 :: x10 :: .fz d :: r)=.ok d:=rfl
@[simp high] theorem Avb (x0 x1 x2 x3 x4 x5 x6 x7 x8 x9 x10:Sl) (d:D) (r:Ev):vF 11 (x0 :: x1 :: x2 :: x3 :: x4 :: x5 :: x6 :: x7 :: x8 :: x9 :: x10 :: .fz d :: r)=.ok d:=rfl
@[simp high] theorem Avz (x0 x1 x2 x3 x4 x5 x6 x7 x8 x9 x10 x11:Sl) (d:D) (r:Ev):vE 12 (x0 :: x1 :: x2 :: x3 :: x4 :: x5 :: x6 :: x7 :: x8 :: x9 :: x10 :: x11 :: .fz d :: r)=.ok d:=rfl
@[simp high] theorem Auy (x0 x1 x2 x3 x4 x5 x6 x7 x8 x9 x10 x11:Sl) (d:D) (r:Ev):vF 12 (x0 :: x1 :: x2 :: x3 :: x4 :: x5 :: x6 :: x7 :: x8 :: x9 :: x10 :: x11 :: .fz d :: r)=.ok d:=rfl
@[simp high] theorem Awa (x0 x1 x2 x3 x4 x5 x6 x7 x8 x9 x10 x11 x12:Sl) (d:D) (r:Ev):vE 13 (x0 :: x1 :: x2 :: x3 :: x4 :: x5 :: x6 :: x7 :: x8 :: x9 :: x10 :: x11 :: x12 :: .fz d :: r)=.ok d:=rfl
@[simp high] theorem Au3 (x0 x1 x2 x3 x4 x5 x6 x7 x8 x9 x10 x11 x12:Sl) (d:D) (r:Ev):vF 13 (x0 :: x1 :: x2 :: x3 :: x4 :: x5 :: x6 :: x7 :: x8 :: x9 :: x10 :: x11 :: x12 :: .fz d :: r)=.ok d:=rfl
theorem Ka (s:Sq):G8 [dS s]=.ok (.bl (decide (OnB s))):=by
 unfold G8 Sh
 simp
 by_cases h1:0<=s.1<;>by_cases h2:s.1<8<;>by_cases h3:0<=s.2<;>simp [h1,h2,h3,OnB]
@[simp] theorem Ar5 (c:Nat):ended (.er c)=.er c:=rfl
theorem U0 {F:List Sq}(h:IsFloor F):Aq [dL F]=.ok .non:=by
 unfold Aq Gx
 obtain⟨E1,e1,t1,rfl⟩:=Ld (set:=gN 1) (b:=Bq) dS (λ (_:Unit) _=>()) (λ _ E=>∃ t,E=[.fz (dL F),t,.un,.un]) F () [.fz (dL F),.un,.un,.un] (by
  rintro _ E ⟨t,rfl⟩ x hx
  refine⟨_,rfl,?_⟩
  simp [calm,Bq,Ka,h.on x hx]) ⟨_,rfl⟩
 obtain⟨E2,e2,t2,t3,rfl⟩:=Ld (set:=gT 2 3) (b:=Cw) (λ p:Sq × Sq=>D.tup [dS p.1,dS p.2]) (λ (_:Unit) _=>()) (λ _ E=>∃ t t',E=[.fz (dL F),t1,t,t']) (F.zip (F.drop 1)) () [.fz (dL F),t1,.un,.un] (by
  rintro _ E ⟨t,t',rfl⟩ x hx
  refine⟨_,rfl,?_⟩
  simp [calm,Cw,Agq h.ord x hx]) ⟨_,_,rfl⟩
 simp [e1]
 rw [<-List.drop_one,<-List.map_drop,Zf,e2]
 rfl
section
variable {n k c e:Nat}{dn:List D->R D}{as:Ev->R (List D)}{m:EX}{ds vs:List D}{d:D}
theorem Gy (h1:as (Ft n ds)=.ok vs) (h2:vs.length=k) (h3:dn vs=.er c):den n (Bc (xDo (Am k dn (calm as))) m) ds=.er c:=by
 simp [den,Bc,xDo,Am,calm,h1,h2,h3]
theorem Dh (h1:as (Ft n ds)=.ok vs) (h2:vs.length=k) (h3:dn vs=.ok d):den n (Bc (xDo (Am k dn (calm as))) m) ds=den n m ds:=by
 simp [den,Bc,xDo,Am,calm,h1,h2,h3]
theorem Aeh (h1:as (Ft n ds)=.ok vs) (h2:vs.length=k) (h3:dn vs=.er c):den n (xDo (Am k dn (calm as))) ds=.er c:=by
 simp [den,xDo,Am,calm,h1,h2,h3]
theorem Aei (h1:as (Ft n ds)=.ok vs) (h2:vs.length=k) (h3:dn vs=.ok d):den n (xDo (Am k dn (calm as))) ds=.ok .non:=by
 simp [den,xDo,Am,calm,h1,h2,h3]
theorem Ajn (h1:as (Ft n ds)=.ok vs) (h2:vs.length=k) (h3:dn vs=.er c):den n (xIf (Abq (Ce (Am k dn (calm as)))) (Jh e) Eu) ds=.er c:=by
 simp [den,xIf,Abq,Ce,Am,calm,h1,h2,h3]
theorem Atu (h1:as (Ft n ds)=.ok vs) (h2:vs.length=k) (h3:dn vs=.ok (.bl false)):den n (xIf (Abq (Ce (Am k dn (calm as)))) (Jh e) Eu) ds=.er e:=by
 simp [den,xIf,Abq,Ce,Am,calm,h1,h2,h3,Jh]
theorem Atv (h1:as (Ft n ds)=.ok vs) (h2:vs.length=k) (h3:dn vs=.ok (.bl true)):den n (xIf (Abq (Ce (Am k dn (calm as)))) (Jh e) Eu) ds=.ok .non:=by
 simp [den,xIf,Abq,Ce,Am,calm,h1,h2,h3,Eu,ended]
end
noncomputable def fn:Nat->D->D->D->D->D->R D
 | 0,F,_,_,_,_=>Bv [F]
 | 1,F,_,_,_,_=>Fd [F]
 | 2,F,g,_,_,_=>Dc [F,g]
 | 3,F,_,_,_,_=>Vk [F]
 | 4,F,_,_,_,_=>Pb [F]
 | 5,F,_,_,n,_=>Kp [F,n]
 | 6,F,g,_,_,_=>Cy [F,g]
 | 7,F,g,_,_,_=>K9 [F,g]
 | 8,F,g,_,_,_=>Ih [F,g]
 | 9,F,g,_,_,s=>Jp [F,g,s]
 | 10,F,g,_,_,s=>Lg [F,g,s]
 | 11,F,g,o,_,_=>O4 [F,g,o]
 | 12,F,g,o,_,_=>Wo [F,g,o]
 | 13,F,g,o,_,_=>Lk [F,g,o]
 | 14,F,g,o,_,_=>La [F,g,o]
 | 15,F,g,_,_,_=>Ib [F,g]
 | _,F,g,_,_,_=>J3 [F,g]
theorem below {a:Nat}(h:a<17):a=0\/a=1\/a=2\/a=3\/a=4\/a=5\/a=6\/a=7\/a=8\/a=9\/a=10\/a=11\/a=12\/a=13\/a=14\/a=15\/a=16:=by omega
section
variable {F g o x s:D}{c a:Nat}
theorem Aq4 (h:Ao [F,g]=.er c) (h1:5<a) (h2:a<11):fn a F g o x s=.er c:=by
 rcases below (a:=a) (by omega) with rfl|rfl|rfl|rfl|rfl|rfl|rfl|rfl|rfl|rfl|rfl|rfl|rfl|rfl|rfl|rfl|rfl
 all_goals first|omega|exact Gy rfl rfl h|(show Cy [F,g]=_;simp [Cy,dN,h])
theorem Y5 (h:Bm [F,g,o]=.er c) (h1:10<a) (h2:a<15):fn a F g o x s=.er c:=by
 rcases below (a:=a) (by omega) with rfl|rfl|rfl|rfl|rfl|rfl|rfl|rfl|rfl|rfl|rfl|rfl|rfl|rfl|rfl|rfl|rfl
 all_goals first|omega|exact Gy rfl rfl h
theorem Ai4 (h:Eb [F,g]=.er c) (h1:14<a) (h2:a<17):fn a F g o x s=.er c:=by
 rcases below (a:=a) (by omega) with rfl|rfl|rfl|rfl|rfl|rfl|rfl|rfl|rfl|rfl|rfl|rfl|rfl|rfl|rfl|rfl|rfl
 all_goals first|omega|exact Gy rfl rfl h
theorem Zi (h:Cq [F]=.er c) (h1:10<a) (h2:a<17):fn a F g o x s=.er c:=by
 rcases Nat.lt_or_ge a 15 with z|z
 ·exact Y5 (Gy rfl rfl h) h1 z
 ·exact Ai4 (Gy rfl rfl h) z h2
theorem Ahz (h:Aq [F]=.er c) (h2:a<17):fn a F g o x s=.er c:=by
 have hp:Bv [F]=.er c:=Gy rfl rfl h
 have hl:Dc [F,g]=.er c:=Gy rfl rfl h
 rcases Nat.lt_or_ge a 6 with z|z
 ·rcases below h2 with rfl|rfl|rfl|rfl|rfl|rfl|rfl|rfl|rfl|rfl|rfl|rfl|rfl|rfl|rfl|rfl|rfl
  all_goals first|omega|exact Gy rfl rfl h|(show Kp [F,x]=_;simp [Kp,dT,h])
 ·rcases Nat.lt_or_ge a 11 with y|y
  ·exact Aq4 (Ajn rfl rfl hl) z y
  ·exact Zi (Ajn rfl rfl hp) y h2
end
noncomputable def said:R D->R D
 | .ok _=>.ok (.int 0)
 | .er c=>match Et c with
  | some d=>.ok d
  | none=>.no
 | .no=>.no
abbrev isT (k:Int) (m:EV):EX:=xIf (calm (Ce (e2 fEq (vE 0) (kE (.int k))))) (xDo m) Eu
noncomputable def seqs:List (Int × EV)->EX
 | []=>Eu
 | [p]=>isT p.1 p.2
 | p :: q :: r=>Bc (isT p.1 p.2) (seqs (q :: r))
theorem Aqc {k:Int}{m:EV}{r:Ev}:isT k m (.fz (.int k) :: r)=m (.fz (.int k) :: r) >>= λ _=>.ok (.nx (.fz (.int k) :: r)):=by
 simp [isT,calm,xDo]
theorem Aie {k a:Int}{m:EV}{r:Ev}(h:a≠k):isT k m (.fz (.int a) :: r)=.ok (.nx (.fz (.int a) :: r)):=by
 simp [isT,calm,h]
theorem Zu {a:Int}{r:Ev}:∀ l:List (Int × EV),(∀ p∈l,a≠p.1)->seqs l (.fz (.int a) :: r)=.ok (.nx (.fz (.int a) :: r))
 | [],_=>rfl
 | [p],h=>Aie (h p (by simp))
 | p :: q :: l,h=>by
  unfold seqs Bc
  rw [Aie (h p (by simp))]
  exact Zu (q :: l) λ x hx=>h x (List.mem_cons_of_mem _ hx)
theorem Aew {a:Int}{m:EV}{r:Ev}(l2:List (Int × EV)) (h2:∀ p∈l2,a≠p.1):∀ l1:List (Int × EV),(∀ p∈l1,a≠p.1)->seqs (l1++(a,m) :: l2) (.fz (.int a) :: r)=m (.fz (.int a) :: r) >>= λ _=>.ok (.nx (.fz (.int a) :: r))
 | [],_=>by
  cases l2 with
  | nil=>exact Aqc
  | cons q l =>
   show Bc (isT a m) (seqs (q :: l)) _=_
   unfold Bc
   rw [Aqc]
   cases m (.fz (.int a) :: r) with
   | ok d=>exact Zu (q :: l) h2
   | er c=>rfl
   | no=>rfl
 | [p],h=>by
  show Bc (isT p.1 p.2) (seqs ((a,m) :: l2)) _=_
  unfold Bc
  rw [Aie (h p (by simp))]
  exact Aew l2 h2 [] (by simp)
 | p :: q :: l,h=>by
  show Bc (isT p.1 p.2) (seqs ((q :: l)++(a,m) :: l2)) _=_
  unfold Bc
  rw [Aie (h p (by simp))]
  exact Aew l2 h2 (q :: l) λ x hx=>h x (List.mem_cons_of_mem _ hx)
noncomputable def Ru:List (Int × EV):=[(0,Am 1 Bv (calm (Ab (vF 1) Aw))),(1,Am 1 Fd (calm (Ab (vF 1) Aw))),(2,Am 2 Dc (calm (Ab (vF 1) (Ab (vF 2) Aw)))),(3,Am 1 Vk (calm (Ab (vF 1) Aw))),(4,Am 1 Pb (calm (Ab (vF 1) Aw))),(5,Am 2 Kp (calm (Ab (vF 1) (Ab (vF 3) Aw)))),(6,Am 2 Cy (calm (Ab (vF 1) (Ab (vF 2) Aw)))),(7,Am 2 K9 (calm (Ab (vF 1) (Ab (vF 2) Aw))))]
noncomputable def Qx:List (Int × EV):=[(8,Am 2 Ih (calm (Ab (vF 1) (Ab (vF 2) Aw)))),(9,Am 3 Jp (calm (Ab (vF 1) (Ab (vF 2) (Ab (vF 4) Aw))))),(10,Am 3 Lg (calm (Ab (vF 1) (Ab (vF 2) (Ab (vF 4) Aw))))),(11,Am 3 O4 (calm (Ab (vF 1) (Ab (vF 2) (Ab (vF 3) Aw))))),(12,Am 3 Wo (calm (Ab (vF 1) (Ab (vF 2) (Ab (vF 3) Aw))))),(13,Am 3 Lk (calm (Ab (vF 1) (Ab (vF 2) (Ab (vF 3) Aw))))),(14,Am 3 La (calm (Ab (vF 1) (Ab (vF 2) (Ab (vF 3) Aw))))),(15,Am 2 Ib (calm (Ab (vF 1) (Ab (vF 2) Aw)))),(16,Am 2 J3 (calm (Ab (vF 1) (Ab (vF 2) Aw))))]
noncomputable def unit:R D->R D
 | .ok _=>.ok .non
 | .er c=>.er c
 | .no=>.no
section
variable {F g o x s:D}{a:Nat}
theorem Ak7 (h:7<a):Gn [.int a,F,g,x]=.ok .non:=by
 show ended (seqs Ru _)=_
 rw [show Ft 4 [.int a,F,g,x]=.fz (.int a) :: [.fz F,.fz g,.fz x] from rfl,Zu Ru (by simp [Ru];omega)]
 rfl
theorem An5 (h:a<8):Hf [.int a,F,g,o,s]=.ok .non:=by
 show ended (seqs Qx _)=_
 rw [show Ft 5 [.int a,F,g,o,s]=.fz (.int a) :: [.fz F,.fz g,.fz o,.fz s] from rfl,Zu Qx (by simp [Qx];omega)]
 rfl
theorem Gp (r:R D) (E:Ev):ended (r >>= λ _=>.ok (.nx E))=unit r:=by cases r<;>rfl
theorem Ef {l:List (Int × EV)}{a:Int}{m:EV}{r:Ev}(i:Nat) (hl:l=l.take i++(a,m) :: l.drop (i+1)) (h1:∀ p∈l.take i,a≠p.1) (h2:∀ p∈l.drop (i+1),a≠p.1):seqs l (.fz (.int a) :: r)=m (.fz (.int a) :: r) >>= λ _=>.ok (.nx (.fz (.int a) :: r)):=by
 rw [hl];exact Aew _ h2 _ h1
theorem Ama (h:a<8):Gn [.int a,F,g,x]=unit (fn a F g o x s):=by
 show ended (seqs Ru (.fz (.int a) :: [.fz F,.fz g,.fz x]))=_
 rcases (by omega:a=0\/a=1\/a=2\/a=3\/a=4\/a=5\/a=6\/a=7) with rfl|rfl|rfl|rfl|rfl|rfl|rfl|rfl
 ·exact (congrArg ended (Ef 0 rfl (by simp [Ru]) (by simp [Ru]))).trans (Gp (fn 0 F g o x s) _)
 ·exact (congrArg ended (Ef 1 rfl (by simp [Ru]) (by simp [Ru]))).trans (Gp (fn 1 F g o x s) _)
 ·exact (congrArg ended (Ef 2 rfl (by simp [Ru]) (by simp [Ru]))).trans (Gp (fn 2 F g o x s) _)
 ·exact (congrArg ended (Ef 3 rfl (by simp [Ru]) (by simp [Ru]))).trans (Gp (fn 3 F g o x s) _)
 ·exact (congrArg ended (Ef 4 rfl (by simp [Ru]) (by simp [Ru]))).trans (Gp (fn 4 F g o x s) _)
 ·exact (congrArg ended (Ef 5 rfl (by simp [Ru]) (by simp [Ru]))).trans (Gp (fn 5 F g o x s) _)
 ·exact (congrArg ended (Ef 6 rfl (by simp [Ru]) (by simp [Ru]))).trans (Gp (fn 6 F g o x s) _)
 ·exact (congrArg ended (Ef 7 rfl (by simp [Ru]) (by simp [Ru]))).trans (Gp (fn 7 F g o x s) _)
theorem Aoc (h:7<a) (h':a<17):Hf [.int a,F,g,o,s]=unit (fn a F g o x s):=by
 show ended (seqs Qx (.fz (.int a) :: [.fz F,.fz g,.fz o,.fz s]))=_
 rcases (by omega:a=8\/a=9\/a=10\/a=11\/a=12\/a=13\/a=14\/a=15\/a=16) with rfl|rfl|rfl|rfl|rfl|rfl|rfl|rfl|rfl
 ·exact (congrArg ended (Ef 0 rfl (by simp [Qx]) (by simp [Qx]))).trans (Gp (fn 8 F g o x s) _)
 ·exact (congrArg ended (Ef 1 rfl (by simp [Qx]) (by simp [Qx]))).trans (Gp (fn 9 F g o x s) _)
 ·exact (congrArg ended (Ef 2 rfl (by simp [Qx]) (by simp [Qx]))).trans (Gp (fn 10 F g o x s) _)
 ·exact (congrArg ended (Ef 3 rfl (by simp [Qx]) (by simp [Qx]))).trans (Gp (fn 11 F g o x s) _)
 ·exact (congrArg ended (Ef 4 rfl (by simp [Qx]) (by simp [Qx]))).trans (Gp (fn 12 F g o x s) _)
 ·exact (congrArg ended (Ef 5 rfl (by simp [Qx]) (by simp [Qx]))).trans (Gp (fn 13 F g o x s) _)
 ·exact (congrArg ended (Ef 6 rfl (by simp [Qx]) (by simp [Qx]))).trans (Gp (fn 14 F g o x s) _)
 ·exact (congrArg ended (Ef 7 rfl (by simp [Qx]) (by simp [Qx]))).trans (Gp (fn 15 F g o x s) _)
 ·exact (congrArg ended (Ef 8 rfl (by simp [Qx]) (by simp [Qx]))).trans (Gp (fn 16 F g o x s) _)
theorem Ae9 (ha:a<17):Es [.int a,F,g,o,x,s]=said (fn a F g o x s):=by
 unfold Es Om
 rcases Nat.lt_or_ge a 8 with h|h
 ·have e1:=Ama (F:=F) (g:=g) (o:=o) (x:=x) (s:=s) h
  have e2:=An5 (F:=F) (g:=g) (o:=o) (s:=s) h
  revert e1
  cases fn a F g o x s<;>intro e1<;>simp [Am5,calm,e1,e2,unit,said]<;>first|rfl|(generalize Et _=y;cases y<;>rfl)
 ·have e1:=Ak7 (F:=F) (g:=g) (x:=x) h
  have e2:=Aoc (F:=F) (g:=g) (o:=o) (x:=x) (s:=s) h ha
  revert e2
  cases fn a F g o x s<;>intro e2<;>simp [Am5,calm,e1,e2,unit,said]<;>first|rfl|(generalize Et _=y;cases y<;>rfl)
end
theorem Aid {F:List Sq}(h:F.Nodup) (hl:F.length<=1000000):Fg [dL F]=.ok (dD F):=by
 unfold Fg Aaa
 simp [Anh,hl]
 rw [Aec dS (λ s=>D.tup [dS s,.bl true]) F λ x hx=>⟨_,rfl,by simp [clr]⟩]
 simp [Aml F h hl]
theorem Afk (x:Int):(∀ y:Int,(if -1 > x-1 then (-1:Int) else x-1)<=y ↔ -1<=y/\x-1<=y):=λ y=>by
 split<;>omega
theorem Agc (x:Int):(∀ y:Int,y<(if 8<x+1 then (8:Int) else x+1)+1 ↔ y<=8/\y<=x+1):=λ y=>by
 split<;>omega
theorem Aiz {x a b:Int}(hx:-1<=x/\x<=8) (ha:∀ y,a<=y ↔ -1<=y/\x-1<=y) (hb:∀ y,y<b ↔ y<=8/\y<=x+1):-1<=a/\b<=9/\b<=a+3:=by
 have h1:=(ha a).1 (Int.le_refl a)
 have h2:=hb (b-1)
 have h3:=hb 9
 have h4:=hb (a+3)
 omega
theorem Rf (p:Sq) (hp:InR p):∃ L:List Sq,Ec [dS p]=.ok (dL L)/\∀ q,q∈L ↔ Acq p q:=by
 obtain⟨p1,p2⟩:=p
 unfold InR at hp
 simp only at hp
 generalize ha:(if -1 > p1-1 then (-1:Int) else p1-1)=a
 generalize hb:(if 8<p1+1 then (8:Int) else p1+1)+1=b
 generalize hc:(if -1 > p2-1 then (-1:Int) else p2-1)=c
 generalize hd:(if 8<p2+1 then (8:Int) else p2+1)+1=d
 have la:∀ y,a<=y ↔ -1<=y/\p1-1<=y:=by rw [<-ha];exact Afk p1
 have lb:∀ y,y<b ↔ y<=8/\y<=p1+1:=by rw [<-hb];exact Agc p1
 have lc:∀ y,c<=y ↔ -1<=y/\p2-1<=y:=by rw [<-hc];exact Afk p2
 have ld:∀ y,y<d ↔ y<=8/\y<=p2+1:=by rw [<-hd];exact Agc p2
 have ba:=Aiz ⟨hp.1,hp.2.1⟩ la lb
 have bc:=Aiz hp.2.2 lc ld
 have a8:a<=8:=(la 8).2 (by omega)
 have c8:c<=8:=(lc 8).2 (by omega)
 have b0:-1<=b:=by have:=(lb (-1)).2 (by omega);omega
 have d0:-1<=d:=by have:=(ld (-1)).2 (by omega);omega
 have lrow:∀ (pre:List Int) (x:Int) (post:List Int),rng a b=pre++x :: post->pre.length<=3:=λ pre x post e=>by
  have:=congrArg List.length e
  rw [J9] at this
  simp at this;omega
 have lcol:∀ (pre:List Int) (x:Int) (post:List Int),rng c d=pre++x :: post->pre.length<=3:=λ pre x post e=>by
  have:=congrArg List.length e
  rw [J9] at this
  simp at this;omega
 refine⟨Aek a b c d,?_,λ q=>?_⟩
 ·unfold Ec Km
  obtain⟨E1,e1,t1,t2,rfl⟩:=T4 (set:=gN 2) (b:=Gu) D.int (λ (pre:List Int) E=>∃ t1 t2,E=[.fz (dS (p1,p2)),.ow (dL (pre.flatMap λ r=>(rng c d).map λ k=>(r,k))),t1,t2]) (rng a b) (by
   rintro pre r post epre E ⟨t1,t2,rfl⟩
   refine⟨_,rfl,?_⟩
   generalize hL:(pre.flatMap λ r=>(rng c d).map λ k=>(r,k))=L
   have lL:L.length<=9:=by
    rw [<-hL,List.length_flatMap]
    simp only [List.length_map,J9,List.map_const',List.sum_replicate_nat]
    have:=lrow pre r post epre
    have h3:(d-c).toNat<=3:=by omega
    exact Nat.le_trans (Nat.mul_le_mul this h3) (by decide)
   obtain⟨E2,e2,u1,rfl⟩:=T4 (set:=gN 3) (b:=Gw) D.int (λ (pre:List Int) E=>∃ t2,E=[.fz (dS (p1,p2)),.ow (dL (L++pre.map λ k=>(r,k))),.fz (.int r),t2]) (rng c d) (by
    rintro pre k post epre E ⟨t2,rfl⟩
    refine⟨_,rfl,?_⟩
    have:=lcol pre k post epre
    simp [Gw]
    rw [if_pos (by omega)]
    simp) [.fz (dS (p1,p2)),.ow (dL L),.fz (.int r),t2] ⟨t2,by simp⟩
   simp [Gu,ha,hb,hc,hd]
   rw [if_pos (by omega)]
   simp
   rw [e2]
   simp [<-hL]) [.fz (dS (p1,p2)),.ow (.lst []),.un,.un] ⟨_,_,rfl⟩
  simp [ha,hb]
  rw [if_pos (by omega)]
  simp [e1,Aom]
  rfl
 ·rw [Ny]
  unfold Acq InR
  simp only
  rw [la,lb,lc,ld]
  exact⟨λ ⟨⟨x1,x2⟩,⟨x3,x4⟩,⟨x5,x6⟩,x7,x8⟩=>⟨x2,x4,x6,x8,x1,x3,x5,x7⟩,λ ⟨x2,x4,x6,x8,x1,x3,x5,x7⟩=>⟨⟨x1,x2⟩,⟨x3,x4⟩,⟨x5,x6⟩,x7,x8⟩⟩
theorem Afg (F:List Sq) (hF:IsFloor F):∃ R:List Sq,Ck [dD F]=.ok (dD R)/\Closed F R/\R.Nodup:=by
 unfold Ck Ij
 obtain⟨⟨R,W⟩,E',e1,⟨t4,t5,rfl,hD⟩,hc⟩:=Alo (c:=Bo) (b:=Dk) (S:=List Sq × List Sq) (λ s E=>∃ t4 t5,E=[.fz (dD F),.fz (dS (-1,-1)),.ow (dD s.1),.ow (dL s.2),t4,t5]/\Dfs F s.1 s.2)
  (λ s=>2 * (100-s.1.length)+s.2.length) (by
   rintro⟨R,W⟩ E ⟨t4,t5,rfl,hD⟩
   rcases List.eq_nil_or_concat W with rfl|⟨W0,p,rfl⟩
   ·left;simp [Bo]
   ·right
    refine⟨by simp [Bo],?_⟩
    rw [List.concat_eq_append] at hD ⊢
    have hpR:p∈R:=hD.wr p (by simp)
    have hpI:=(hD.ok p hpR).inR
    obtain⟨L,eL,mL⟩:=Rf p hpI
    have w0:W0.Nodup/\p∉W0:=by
     have:=hD.wn
     rw [List.nodup_append] at this
     exact⟨this.1,λ h=>this.2.2 p h p (by simp) rfl⟩
    obtain⟨E2,e2,X,u5,rfl,hX1,hX2,hX3⟩:=T4 (set:=gN 5) (b:=Cg) dS (λ (pre:List Sq) E=>∃ (X:List Sq) (t5:Sl),E=[.fz (dD F),.fz (dS (-1,-1)),.ow (dD (R++X)),.ow (dL (W0++X)),.fz (dS p),t5]/\(R++X).Nodup/\(∀ x∈X,x∉F/\Acq p x)/\∀ q∈pre,q∉F->q∈R++X) L (by
     rintro pre q post epre E ⟨X,t5,rfl,h1,h2,h3⟩
     refine⟨_,rfl,?_⟩
     have hq:Acq p q:=(mL q).1 (by rw [epre];simp)
     have l1:(R++X).length<=100:=T9 h1 λ x hx=>by
      rcases List.mem_append.mp hx with hx|hx
      ·exact (hD.ok x hx).inR
      ·exact (h2 x hx).2.2.2.2.2
     have l2:W0.length<=100:=by have:=hD.wl;simp at this;omega
     by_cases hqF:q∈F
     ·refine Tt (E:=[.fz (dD F),.fz (dS (-1,-1)),.ow (dD (R++X)),.ow (dL (W0++X)),.fz (dS p),.fz (dS q)]) (by simp [Cg,hqF]) ⟨X,_,rfl,h1,h2,λ a ha hb=>?_⟩
      rcases List.mem_append.mp ha with ha|ha
      ·exact h3 a ha hb
      ·exact absurd hqF (by simp at ha;rw [<-ha];exact hb)
     ·by_cases hqR:q∈R++X
      ·refine Tt (E:=[.fz (dD F),.fz (dS (-1,-1)),.ow (dD (R++X)),.ow (dL (W0++X)),.fz (dS p),.fz (dS q)]) (by simp only [Cg];simp [hqF,-List.map_append,-List.mem_append,hqR]) ⟨X,_,rfl,h1,h2,λ a ha hb=>?_⟩
       rcases List.mem_append.mp ha with ha|ha
       ·exact h3 a ha hb
       ·simp at ha;rw [ha];exact hqR
      ·have nd:(R++(X++[q])).Nodup:=by
        rw [<-List.append_assoc,List.nodup_append]
        exact⟨h1,by simp,λ a ha b hb e=>hqR (by simp at hb;rw [<-hb,<-e];exact ha)⟩
       refine Tt (E:=[.fz (dD F),.fz (dS (-1,-1)),.ow (dD (R++(X++[q]))),.ow (dL (W0++(X++[q]))),.fz (dS p),.fz (dS q)]) ?_ ⟨X++[q],_,rfl,nd,?_,λ a ha hb=>?_⟩
       ·have lx:X.length<=100:=by simp at l1;omega
        have l3:(W0.map dS++X.map dS).length<1000000:=by simp;omega
        have l4:(R++X).length<1000000:=by omega
        simp only [Cg]
        simp [hqF,-List.map_append,-List.mem_append,hqR,-List.length_append,l4,Ajm q _ hqR]
        rw [if_pos (by simp;omega)]
        simp
       ·intro x hx
        rcases List.mem_append.mp hx with hx|hx
        ·exact h2 x hx
        ·simp at hx;rw [hx];exact⟨hqF,hq⟩
       ·rcases List.mem_append.mp ha with ha|ha
        ·rw [<-List.append_assoc];exact List.mem_append_left _ (h3 a ha hb)
        ·simp at ha;rw [ha];simp) [.fz (dD F),.fz (dS (-1,-1)),.ow (dD R),.ow (dL W0),.fz (dS p),t5] ⟨[],t5,by simp,by simpa using hD.nd,by simp,by simp⟩
    refine Tt (E:=[.fz (dD F),.fz (dS (-1,-1)),.ow (dD (R++X)),.ow (dL (W0++X)),.fz (dS p),u5]) ?_ ⟨(R++X,W0++X),⟨_,_,rfl,?_⟩,?_⟩
    ·simp only [Dk]
     simp [eL,e2]
    ·have dis:∀ x∈X,x∉R:=λ x hx hr=>by
      rw [List.nodup_append] at hX1
      exact hX1.2.2 x hr x hx rfl
     refine⟨hX1,List.mem_append_left _ hD.st,λ x hx=>?_,λ x hx=>?_,?_,λ a ha hw q hq hf=>?_⟩
     ·rcases List.mem_append.mp hx with hx|hx
      ·exact hD.ok x hx
      ·exact Reach.step (hD.ok p hpR) (hX2 x hx).2 (hX2 x hx).1
     ·rcases List.mem_append.mp hx with hx|hx
      ·exact List.mem_append_left _ (hD.wr x (by simp [hx]))
      ·exact List.mem_append_right _ hx
     ·rw [List.nodup_append] at hX1 ⊢
      exact⟨w0.1,hX1.2.1,λ a ha b hb e=>hX1.2.2 a (hD.wr a (by simp [ha])) b hb e⟩
     ·by_cases hap:a=p
      ·subst hap
       exact hX3 q ((mL q).2 hq) hf
      ·rcases List.mem_append.mp ha with ha|ha
       ·exact List.mem_append_left _ (hD.cl a ha (λ h=>by
         simp at h
         rcases h with h|h
         ·exact hw (List.mem_append_left _ h)
         ·exact hap h) q hq hf)
       ·exact absurd (List.mem_append_right _ ha) hw
    ·have l1:(R++X).length<=100:=T9 hX1 λ x hx=>by
      rcases List.mem_append.mp hx with hx|hx
      ·exact (hD.ok x hx).inR
      ·exact (hX2 x hx).2.2.2.2.2
     simp at l1 ⊢
     omega) fuel ([(-1,-1)],[(-1,-1)]) [.fz (dD F),.fz (dS (-1,-1)),.ow (dD [(-1,-1)]),.ow (dL [(-1,-1)]),.un,.un] ⟨_,_,rfl,by simp,by simp,by simp;exact .base,by simp,by simp,by simp⟩ (by unfold fuel;simp)
 have hW:W=[]:=by
  simp [Bo] at hc
  exact hc
 subst hW
 refine⟨R,?_,⟨hD.st,hD.ok,λ p hp q hq hf=>hD.cl p hp (by simp) q hq hf⟩,hD.nd⟩
 simp [Yh]
 show ended (Aa1 Bo Dk fuel [.fz (dD F),.fz (dS (-1,-1)),.ow (dD [(-1,-1)]),.ow (dL [(-1,-1)]),.un,.un] >>= _)=_
 rw [e1]
 simp [Aom]
theorem Ro {F:List Sq}(hF:IsFloor F):∃ R:List Sq,Bv [dL F]=.ok (.bl (decide (R.length+F.length=100)))/\Closed F R/\R.Nodup:=by
 obtain⟨R,e,h1,h2⟩:=Afg F hF
 refine⟨R,?_,h1,h2⟩
 have hl:F.length<=1000000:=by
  have:=T9 (Ed hF.ord) λ x hx=>by have:=hF.on x hx;unfold OnB at this;unfold InR;omega
  omega
 unfold Bv R7 R3
 simp [calm,U0 hF,Aid (Ed hF.ord) hl,e]
 omega
theorem Afi {F:List Sq}{x:Sq}(h:Reach F x) (h0:((-1,-1):Sq)∉F):x∉F:=by
 cases h with
 | base=>exact h0
 | step _ _ f=>exact f
noncomputable def sq4 (t l:Int):List Sq:=[(t,l),(t,l+1),(t+1,l),(t+1,l+1)]
noncomputable def rg8 (t l:Int):List Sq:=[(t,l),(t,l+1),(t,l+2),(t+1,l),(t+1,l+2),(t+2,l),(t+2,l+1),(t+2,l+2)]
section
variable {t l:Int}(ht:0<=t/\t<6) (hl:0<=l/\l<6)
include ht hl
theorem Aai:IsFloor (sq4 t l):=⟨by simp [sq4,Slt];omega,by simp [sq4,OnB];omega⟩
theorem Aar:IsFloor (rg8 t l):=⟨by simp [rg8,Slt];omega,by simp [rg8,OnB];omega⟩
theorem Agz:∀ (n:Nat) (r c:Int),InR (r,c)->(r+1) * 10+(c+1)=n->(r,c)∉sq4 t l->Reach (sq4 t l) (r,c):=λ n=>by
 induction n using Nat.strongRecOn with
 | _ n ih =>
  intro r c hi hn hm
  have mem:∀ {r c:Int},(r,c)∈sq4 t l ↔ (t<=r/\r<=t+1/\l<=c/\c<=l+1):=λ {r c}=>by simp [sq4];omega
  rw [mem] at hm
  unfold InR at hi
  simp only at hi
  have go:∀ r' c':Int,InR (r',c')->(r'+1) * 10+(c'+1)<n->¬ (t<=r'/\r'<=t+1/\l<=c'/\c'<=l+1)->Acq (r',c') (r,c)->Reach (sq4 t l) (r,c):=λ r' c' h1 h2 h3 h4=>by
   have h1':=h1
   unfold InR at h1'
   simp only at h1'
   exact .step (ih ((r'+1) * 10+(c'+1)).toNat (by omega) r' c' h1 (by omega) (by rw [mem];exact h3)) h4 (by rw [mem];exact hm)
  by_cases h0:r=-1
  ·subst h0
   by_cases h1:c=-1
   ·subst h1;exact .base
   ·exact go (-1) (c-1) (by unfold InR;simp only;omega) (by omega) (by omega) (by unfold Acq InR;simp only;omega)
  ·by_cases h1:t<=r-1/\r-1<=t+1/\l<=c/\c<=l+1
   ·exact go r (c-1) (by unfold InR;simp only;omega) (by omega) (by omega) (by unfold Acq InR;simp only;omega)
   ·exact go (r-1) c (by unfold InR;simp only;omega) (by omega) h1 (by unfold Acq InR;simp only;omega)
theorem Zz:Bv [dL (sq4 t l)]=.ok (.bl true):=by
 have hF:=Aai ht hl
 obtain⟨R,e,hc,hn⟩:=Ro hF
 have h1:=G6 (l1:=outs (sq4 t l)) (l2:=R) ((Ed (Qg _ _ _ _)).filter _) λ x hx=>(hc.iff x).2 (by
  obtain⟨a,b⟩:=N5.1 hx
  have a':=a
  unfold InR at a'
  exact Agz ht hl ((x.1+1) * 10+(x.2+1)).toNat x.1 x.2 a (by omega) b)
 have h2:=G6 hn λ x hx=>N5.2 ⟨(hc.ok x hx).inR,(Afi (hc.ok x hx) (by simp [sq4];omega))⟩
 have h3:=Zo hF
 rw [e,decide_eq_true (by omega)]
theorem Aak:Bv [dL (rg8 t l)]=.ok (.bl false):=by
 have hF:=Aar ht hl
 obtain⟨R,e,hc,hn⟩:=Ro hF
 have hb:((-1,-1):Sq)∉rg8 t l:=by simp [rg8];omega
 have no:∀ x,Reach (rg8 t l) x->x≠(t+1,l+1):=λ x h=>by
  induction h with
  | base=>intro z;have:=congrArg Prod.fst z;simp only at this;omega
  | @step p q hp hq _ ih =>
   rintro rfl
   have:=Afi hp hb
   obtain⟨r,c⟩:=p
   unfold Acq at hq
   simp [rg8] at this ih hq
   omega
 have h2:=G6 (l1:=(t+1,l+1) :: R) (l2:=outs (rg8 t l)) (List.nodup_cons.2 ⟨λ z=>no _ (hc.ok _ z) rfl,hn⟩) λ x hx=>by
  rcases List.mem_cons.1 hx with rfl|hx
  ·exact N5.2 ⟨by unfold InR;simp only;omega,by simp [rg8];omega⟩
  ·exact N5.2 ⟨(hc.ok x hx).inR,Afi (hc.ok x hx) hb⟩
 have h3:=Zo hF
 rw [e,decide_eq_false (by simp at h2;omega)]
end
noncomputable def cd:R D->Nat
 | .ok _=>0
 | .er c=>2 * c+1
 | .no=>2
theorem Aqr {r:R D}(h:cd r=0):∃ d,r=.ok d:=by
 cases r with
 | ok d=>exact⟨d,rfl⟩
 | er c=>simp [cd] at h
 | no=>cases h
theorem Ale {r:R D}{c:Nat}(h:cd r=2 * c+1):r=.er c:=by
 cases r with
 | ok d=>simp [cd] at h
 | er e=>simp [cd] at h;rw [show e=c by omega]
 | no=>simp [cd] at h;omega
noncomputable def isI (r:R D) (k:Int):Bool:=match r with
 | .ok (.int i)=>decide (i=k)
 | _=>false
theorem Atc {r:R D}{k:Int}(h:isI r k=true):r=.ok (.int k):=by
 unfold isI at h
 split at h
 ·rw [of_decide_eq_true h]
 ·cases h
noncomputable def val:Nat->Int
 | 1=>1
 | 3=>3
 | 5=>2
 | 7=>5
 | 9=>4
 | _=>0
noncomputable def Xc (a:Nat) (bad ring:Bool) (share:Nat) (odd:Bool):Nat :=
 if bad then 1 else if ring && decide (10<a) then 5 else if (share == 1 && decide (5<a)) || (share == 2 && decide (10<a) && decide (a<15)) then 3 else if a == 5 && odd then 9 else if (a == 9 || a == 10) && (odd || ring) then 7 else 0
theorem Adg {p:Nat->Bool}{n:Nat}(h:(List.range n).all p=true) {i:Nat}(hi:i<n):p i=true:=List.all_eq_true.1 h i (List.mem_range.2 hi)
noncomputable def bb (p:Bool->Bool):Bool:=p true && p false
theorem Am2 {p:Bool->Bool}(h:bb p=true) (b:Bool):p b=true:=by
 have:=Bool.and_eq_true_iff.1 h
 cases b
 ·exact this.2
 ·exact this.1
theorem Aly:((List.range 17).all λ a=>bb λ bad=>bb λ ring=>(List.range 4).all λ sh=>bb λ odd=>isI (Ik [.int a,.bl bad,.bl ring,.int sh,.bl odd]) (val (Xc a bad ring sh odd)))=true:=by decide +kernel
theorem Aty {a sh:Nat}(ha:a<17) (hs:sh<4) (bad ring odd:Bool):Ik [.int a,.bl bad,.bl ring,.int sh,.bl odd]=.ok (.int (val (Xc a bad ring sh odd))) :=
 Atc (Am2 (Adg (Am2 (Am2 (Adg Aly ha) bad) ring) hs) odd)
theorem Ao0 {r:R D}{a sh:Nat}{bad ring odd:Bool}(h:cd r=Xc a bad ring sh odd):said r=.ok (.int (val (Xc a bad ring sh odd))):=by
 rw [<-h]
 have:cd r=0\/cd r=2 * 0+1\/cd r=2 * 1+1\/cd r=2 * 2+1\/cd r=2 * 3+1\/cd r=2 * 4+1:=by
  rw [h];unfold Xc;repeat' split
  all_goals simp
 rcases this with e|e|e|e|e|e
 ·obtain⟨d,rfl⟩:=Aqr e;rfl
 all_goals rw [Ale e];rfl
noncomputable def fg (ring:Bool) (t l:Int):List D:=if ring then [.tup [.int t,.int l,.int 0],.tup [.int t,.int (l+2),.int 1],.tup [.int (t+1),.int l,.int 1],.tup [.int (t+2),.int (l+1),.int 0]] else [.tup [.int t,.int l,.int 0],.tup [.int (t+1),.int l,.int 0]]
noncomputable def fl (ring:Bool) (t l:Int):D:=dL (if ring then rg8 t l else sq4 t l)
noncomputable def gg (ring:Bool) (t l:Int) (sh:Nat):D:=.lst (if sh=1 then (fg ring t l).drop 1 else fg ring t l)
noncomputable def oo (ring:Bool) (t l:Int) (sh:Nat):D:=.lst (if sh=2 then (fg ring t l).dropLast else fg ring t l)
noncomputable def xx (odd:Bool):D:=.int (if odd then -1 else 0)
noncomputable def ss (t l:Int) (odd:Bool):D:=if odd then .tup [.int 0,.int 0] else .tup [.int (t+1),.int (l+1)]
noncomputable def ev (a:Nat) (ring:Bool) (sh:Nat) (odd:Bool) (t l:Int):Nat:=cd (fn a (fl ring t l) (gg ring t l sh) .non (xx odd) (ss t l odd))
noncomputable def tab:List (Nat × Nat × Bool):=[(1,0,false),(2,0,false),(2,1,false),(3,0,false),(4,0,false),(5,0,false),(5,0,true),(6,0,false),(6,1,false),(7,0,false),(7,1,false),(8,0,false),(8,1,false),(9,0,false),(9,0,true),(9,1,false),(9,1,true),(10,0,false),(10,0,true),(10,1,false),(10,1,true)]
noncomputable def evs (ring:Bool) (t l:Int):Bool:=tab.all λ p=>ev p.1 ring p.2.1 p.2.2 t l == Xc p.1 false ring p.2.1 p.2.2
noncomputable def more (t l:Int):Bool:=cd (Ao [fl false t l,gg false t l 0]) == 0 && cd (Ao [fl false t l,gg false t l 1]) == 3 && cd (Ao [fl false t l,oo false t l 2]) == 3 && ([(5,Ai9),(3,An1),(6,Af9),(6,Aeg)].all λ p=>cd (den p.1 p.2 [fl false t l,gg false t l 0,oo false t l 0]) == 0) && ([(2,Vt),(2,Zm)].all λ p=>cd (den p.1 p.2 [fl false t l,gg false t l 0]) == 0)
theorem Xo {α:Type}{set:D->Ev->Option Ev}{b:EX}(f:α->D) (good:α->Prop) (I:Ev->Prop) (h:∀ E,I E->∀ x,∃ E1,set (f x) E=some E1/\(good x->∃ E2,b E1=.ok (.nx E2)/\I E2)/\(¬ good x->b E1=.er 0)):∀ (xs:List α) (E:Ev),I E->(∃ x∈xs,¬ good x)->forL set b (xs.map f) E=.er 0
 | [],_,_,h=>by obtain⟨_,z,_⟩:=h;cases z
 | x :: r,E,hI,hx=>by
  obtain⟨E1,e1,h1,h2⟩:=h E hI x
  show (match set (f x) E with
   | none=>_
   | some E1=>_)=_
  rw [e1]
  show (b E1 >>= _)=_
  rcases Classical.em (good x) with g|g
  ·obtain⟨E2,e2,i2⟩:=h1 g
   rw [e2]
   refine Xo f good I h r E2 i2 ?_
   obtain⟨y,hy,ny⟩:=hx
   rcases List.mem_cons.1 hy with rfl|hy
   ·exact absurd g ny
   ·exact⟨y,hy,ny⟩
  ·rw [h2 g];rfl
theorem S5 {F:List Sq}(h:∃ s∈F,¬ OnB s):Aq [dL F]=.er 0:=by
 unfold Aq Gx
 have e1:=Xo (set:=gN 1) (b:=Bq) dS OnB (λ E=>∃ t,E=[.fz (dL F),t,.un,.un]) (by
  rintro E ⟨t,rfl⟩ x
  refine⟨_,rfl,λ g=>⟨_,by simp [calm,Bq,Ka,g];rfl,_,rfl⟩,λ g=>by simp [calm,Bq,Ka,g,Jh]⟩) F [.fz (dL F),.un,.un,.un] ⟨_,rfl⟩ h
 simp [e1]
theorem Ua {F:List Sq}(ho:∀ s∈F,OnB s) {i:Nat}{x y:Sq}(h1:F[i]?=some x) (h2:F[i+1]?=some y) (h:¬ Slt x y):Aq [dL F]=.er 0:=by
 unfold Aq Gx
 obtain⟨E1,e1,t1,rfl⟩:=Ld (set:=gN 1) (b:=Bq) dS (λ (_:Unit) _=>()) (λ _ E=>∃ t,E=[.fz (dL F),t,.un,.un]) F () [.fz (dL F),.un,.un,.un] (by
  rintro _ E ⟨t,rfl⟩ x hx
  refine⟨_,rfl,?_⟩
  simp [calm,Bq,Ka,ho x hx]) ⟨_,rfl⟩
 have e2:=Xo (set:=gT 2 3) (b:=Cw) (λ p:Sq × Sq=>D.tup [dS p.1,dS p.2]) (λ p=>Slt p.1 p.2) (λ E=>∃ t t',E=[.fz (dL F),t1,t,t']) (by
  rintro E ⟨t,t',rfl⟩ x
  refine⟨_,rfl,λ g=>⟨[.fz (dL F),t1,.fz (dS x.1),.fz (dS x.2)],by simp [calm,Cw,Amg,g],_,_,rfl⟩,λ g=>by simp [calm,Cw,Amg,g,Jh]⟩) (F.zip (F.drop 1)) [.fz (dL F),t1,.un,.un] ⟨_,_,rfl⟩
  ⟨(x,y),List.mem_iff_getElem?.2 ⟨i,by rw [List.getElem?_zip_eq_some];exact⟨h1,by rw [List.getElem?_drop,Nat.add_comm];exact h2⟩⟩,h⟩
 simp [e1]
 rw [<-List.drop_one,<-List.map_drop,Zf,e2]
 rfl
theorem Ax6 {A B:List Sq}(h:A.length+B.length<=1000000):Ew (dL A) (dL B)=some (dL (A++B)):=by
 show (if (A.map dS).length+(B.map dS).length<=1000000 then some (D.lst (A.map dS++B.map dS)) else none)=_
 rw [if_pos (by rw [List.length_map,List.length_map];exact h),<-List.map_append]
theorem Aip (L:List Sq) (n:Nat):fSl (dL L) none (some (n:Int))=some (dL (L.take n)):=by
 show some (D.lst (cutD (L.map dS) none (some (n:Int))))=_
 rw [Aqw,<-List.map_take]
theorem Yo (L:List Sq) (n:Nat):fSl (dL L) (some (n:Int)) none=some (dL (L.drop n)):=by
 show some (D.lst (cutD (L.map dS) (some (n:Int)) none))=_
 rw [Aab,<-List.map_drop]
theorem Auo {L:List Sq}{n:Nat}{x:Sq}(h:L[n]?=some x):fIx (dL L) (.int n)=some (dS x):=by
 rw [Auh]
 exact Iw (by rw [List.getElem?_map,h];rfl)
theorem Adq {F:List Sq}(h:F.Pairwise Slt) {i j:Nat}{x y:Sq}(hij:i<=j) (hx:F[i]?=some x) (hy:F[j]?=some y):¬ Slt y x:=by
 obtain⟨h1,rfl⟩:=List.getElem?_eq_some_iff.1 hx
 obtain⟨h2,rfl⟩:=List.getElem?_eq_some_iff.1 hy
 rcases Nat.lt_or_eq_of_le hij with z|rfl
 ·have:=List.pairwise_iff_getElem.1 h i j h1 h2 z
  intro q
  exact Slt.irr (this.trans q)
 ·exact Slt.irr
theorem Ahb {F:List Sq}(hF:IsFloor F) (h2:2<=F.length) (hl:F.length<=100) (cell:Int):(cell % 7=0->Dg [dL F,.int cell]=.ok (dL F))/\(cell % 7≠0->∃ F':List Sq,Dg [dL F,.int cell]=.ok (dL F')/\Aq [dL F']=.er 0):=by
 have hp:Apv (.int 10) (.int 30)=some (.int 1000000000000000000000000000000):=by
  show (if (0:Int)<=30/\(30:Int)<=1000/\(10:Int).natAbs<2 ^ 63 then some (D.int ((10:Int) ^ (30:Int).toNat)) else none)=_
  rw [if_pos (by decide)];rfl
 obtain⟨a,ha⟩:∃ a:Nat,cell / 7 % (F.length:Int)=a:=⟨(cell / 7 % (F.length:Int)).toNat,by have:=Int.emod_nonneg (cell / 7) (b:=(F.length:Int)) (by omega);omega⟩
 obtain⟨p,hq⟩:∃ p:Nat,cell / 7 % ((F.length:Int)-1)=p:=⟨(cell / 7 % ((F.length:Int)-1)).toNat,by have:=Int.emod_nonneg (cell / 7) (b:=(F.length:Int)-1) (by omega);omega⟩
 have la:a<F.length:=by have:=Int.emod_lt_of_pos (cell / 7) (b:=(F.length:Int)) (by omega);omega
 have lp:p+1<F.length:=by have:=Int.emod_lt_of_pos (cell / 7) (b:=(F.length:Int)-1) (by omega);omega
 obtain⟨x,hx⟩:∃ x,F[p]?=some x:=⟨F[p]'(by omega),by simp [show p<F.length by omega]⟩
 obtain⟨y,hy⟩:∃ y,F[p+1]?=some y:=⟨F[p+1]'lp,by simp [lp]⟩
 obtain⟨z,hz⟩:∃ z,F[a]?=some z:=⟨F[a]'la,by simp [la]⟩
 have fp:0<=cell / 56 % 1000000000000000000000000000000:=Int.emod_nonneg _ (by decide)
 generalize hf:cell / 56 % 1000000000000000000000000000000=far at fp
 have i1:fIx (dL F) (.int ((p:Int)+1))=some (dS y):=Auo (n:=p+1) hy
 have i2:=Auo hx
 have ln:Yp (dL F)=some (.int F.length):=by show some (D.int ((F.map dS).length:Nat))=_;rw [List.length_map]
 have c0:0<F.length:=by omega
 have c1:1<F.length:=by omega
 have c2:(1:Int)<F.length:=by omega
 have s1:fSl (dL F) none (some ((a:Int)+1))=some (dL (F.take (a+1))):=Aip F (a+1)
 have s2:fSl (dL F) (some (a:Int)) none=some (dL (F.drop a)):=Yo F a
 have s3:fSl (dL F) (some (1:Int)) none=some (dL (F.drop 1)):=Yo F 1
 have s4:fSl (dL F) none (some (1:Int))=some (dL (F.take 1)):=Aip F 1
 have s5:fSl (dL F) none (some (p:Int))=some (dL (F.take p)):=Aip F p
 have s6:fSl (dL F) (some ((p:Int)+2)) none=some (dL (F.drop (p+2))):=Yo F (p+2)
 have s7:fSl (dL F) none (some ((p:Int)+2))=some (dL (F.take (p+2))):=Aip F (p+2)
 have ad:∀ A B:List Sq,A.length<=200->B.length<=200->Ew (dL A) (dL B)=some (dL (A++B)):=λ A B h h'=>Ax6 (by omega)
 unfold Dg M7
 constructor
 ·intro hk
  simp [hp,ln,hf,ha,hq,hk,i1,i2,c0,c1,c2]
 ·intro hk
  rcases (by omega:cell % 7=1\/cell % 7=2\/cell % 7=3\/cell % 7=4\/cell % 7=5\/cell % 7=6) with hk|hk|hk|hk|hk|hk
  ·have q:=ad (F.take (a+1)) (F.drop a) (by simp;omega) (by simp;omega)
   refine⟨F.take (a+1)++F.drop a,by simp [-Nh,hp,ln,hf,ha,hq,hk,c0,c1,c2,s1,s2,q],Ua (i:=a) (x:=z) (y:=z) ?_ ?_ ?_ Slt.irr⟩
   ·intro s hs
    rcases List.mem_append.1 hs with hs|hs
    ·exact hF.on s (List.mem_of_mem_take hs)
    ·exact hF.on s (List.mem_of_mem_drop hs)
   ·rw [List.getElem?_append_left (by simp;omega),List.getElem?_take,if_pos (by omega),hz]
   ·rw [List.getElem?_append_right (by simp;omega),List.getElem?_drop,<-hz]
    congr 1
    simp;omega
  ·have q:=ad (F.drop 1) (F.take 1) (by simp;omega) (by simp;omega)
   obtain⟨u,hu⟩:∃ u,F[F.length-1]?=some u:=⟨F[F.length-1]'(by omega),by simp [c0]⟩
   obtain⟨v,hv⟩:∃ v,F[0]?=some v:=⟨F[0]'(by omega),by simp [c0]⟩
   refine⟨F.drop 1++F.take 1,by simp [-Nh,-List.drop_one,hp,ln,hf,ha,hq,hk,c0,c1,c2,s3,s4,q],Ua (i:=F.length-2) (x:=u) (y:=v) ?_ ?_ ?_ (Adq hF.ord (Nat.zero_le _) hv hu)⟩
   ·intro s hs
    rcases List.mem_append.1 hs with hs|hs
    ·exact hF.on s (List.mem_of_mem_drop hs)
    ·exact hF.on s (List.mem_of_mem_take hs)
   ·rw [List.getElem?_append_left (by simp;omega),List.getElem?_drop,<-hu]
    congr 1
    omega
   ·rw [List.getElem?_append_right (by simp;omega),List.getElem?_take,if_pos (by simp;omega),<-hv]
    congr 1
    simp;omega
  ·rcases (by omega:(a:Int) % 2=0\/(a:Int) % 2=1) with h|h
   ·have q:Ew (.lst [.tup [.int (-1-far),.int 0]]) (dL F)=some (dL ((-1-far,0) :: F)):=ad [(-1-far,0)] F (by simp) (by omega)
    exact⟨(-1-far,0) :: F,by simp [-Nh,hp,ln,hf,ha,hq,hk,c0,c1,c2,h,q],S5 ⟨_,List.mem_cons_self,by unfold OnB;simp only;omega⟩⟩
   ·have q:Ew (.lst [.tup [.int 0,.int (-1-far)]]) (dL F)=some (dL ((0,-1-far) :: F)):=ad [(0,-1-far)] F (by simp) (by omega)
    exact⟨(0,-1-far) :: F,by simp [-Nh,hp,ln,hf,ha,hq,hk,c0,c1,c2,h,q],S5 ⟨_,List.mem_cons_self,by unfold OnB;simp only;omega⟩⟩
  ·rcases (by omega:(a:Int) % 2=0\/(a:Int) % 2=1) with h|h
   ·have q:Ew (dL F) (.lst [.tup [.int (8+far),.int 0]])=some (dL (F++[(8+far,0)])):=ad F [(8+far,0)] (by omega) (by simp)
    exact⟨F++[(8+far,0)],by simp [-Nh,hp,ln,hf,ha,hq,hk,c0,c1,c2,h,q],S5 ⟨_,List.mem_append_right _ List.mem_cons_self,by unfold OnB;simp only;omega⟩⟩
   ·have q:Ew (dL F) (.lst [.tup [.int 7,.int (8+far)]])=some (dL (F++[(7,8+far)])):=ad F [(7,8+far)] (by omega) (by simp)
    exact⟨F++[(7,8+far)],by simp [-Nh,hp,ln,hf,ha,hq,hk,c0,c1,c2,h,q],S5 ⟨_,List.mem_append_right _ List.mem_cons_self,by unfold OnB;simp only;omega⟩⟩
  ·have q1:Ew (dL (F.take p)) (.lst [dS y,dS x])=some (dL (F.take p++[y,x])):=ad _ [y,x] (by simp;omega) (by simp)
   have q2:=ad (F.take p++[y,x]) (F.drop (p+2)) (by simp;omega) (by simp;omega)
   refine⟨F.take p++[y,x]++F.drop (p+2),by simp [-Nh,-List.append_assoc,hp,ln,hf,ha,hq,hk,i1,i2,c0,c1,c2,s5,s6,q1,q2],Ua (i:=p) (x:=y) (y:=x) ?_ ?_ ?_ (Adq hF.ord (Nat.le_succ p) hx hy)⟩
   ·intro s hs
    rcases List.mem_append.1 hs with hs|hs
    ·rcases List.mem_append.1 hs with hs|hs
     ·exact hF.on s (List.mem_of_mem_take hs)
     ·rcases List.mem_cons.1 hs with rfl|hs
      ·exact hF.on _ (List.mem_of_getElem? hy)
      ·rw [List.mem_singleton.1 hs];exact hF.on _ (List.mem_of_getElem? hx)
    ·exact hF.on s (List.mem_of_mem_drop hs)
   ·rw [List.append_assoc,List.getElem?_append_right (by simp;omega),show p-(F.take p).length=0 by simp;omega];rfl
   ·rw [List.append_assoc,List.getElem?_append_right (by simp;omega),show p+1-(F.take p).length=1 by simp;omega];rfl
  ·have q1:Ew (dL (F.take (p+2))) (.lst [dS x])=some (dL (F.take (p+2)++[x])):=ad _ [x] (by simp;omega) (by simp)
   have q2:=ad (F.take (p+2)++[x]) (F.drop (p+2)) (by simp;omega) (by simp;omega)
   refine⟨F.take (p+2)++[x]++F.drop (p+2),by simp [-Nh,-List.append_assoc,hp,ln,hf,ha,hq,hk,i1,i2,c0,c1,c2,s6,s7,q1,q2],Ua (i:=p+1) (x:=y) (y:=x) ?_ ?_ ?_ (Adq hF.ord (Nat.le_succ p) hx hy)⟩
   ·intro s hs
    rcases List.mem_append.1 hs with hs|hs
    ·rcases List.mem_append.1 hs with hs|hs
     ·exact hF.on s (List.mem_of_mem_take hs)
     ·rw [List.mem_singleton.1 hs];exact hF.on _ (List.mem_of_getElem? hx)
    ·exact hF.on s (List.mem_of_mem_drop hs)
   ·rw [List.append_assoc,List.getElem?_append_left (by simp;omega),List.getElem?_take,if_pos (by omega),hy]
   ·rw [List.append_assoc,List.getElem?_append_right (by simp;omega),show p+1+1-(F.take (p+2)).length=0 by simp;omega];rfl
theorem er0:((List.range 6).all λ l=>evs true ((0:Nat):Int) l)=true:=by decide +kernel
theorem es0:((List.range 6).all λ l=>evs false ((0:Nat):Int) l && more ((0:Nat):Int) l)=true:=by decide +kernel
theorem er1:((List.range 6).all λ l=>evs true ((1:Nat):Int) l)=true:=by decide +kernel
theorem es1:((List.range 6).all λ l=>evs false ((1:Nat):Int) l && more ((1:Nat):Int) l)=true:=by decide +kernel
theorem er2:((List.range 6).all λ l=>evs true ((2:Nat):Int) l)=true:=by decide +kernel
theorem es2:((List.range 6).all λ l=>evs false ((2:Nat):Int) l && more ((2:Nat):Int) l)=true:=by decide +kernel
theorem er3:((List.range 6).all λ l=>evs true ((3:Nat):Int) l)=true:=by decide +kernel
theorem es3:((List.range 6).all λ l=>evs false ((3:Nat):Int) l && more ((3:Nat):Int) l)=true:=by decide +kernel
theorem er4:((List.range 6).all λ l=>evs true ((4:Nat):Int) l)=true:=by decide +kernel
theorem es4:((List.range 6).all λ l=>evs false ((4:Nat):Int) l && more ((4:Nat):Int) l)=true:=by decide +kernel
theorem er5:((List.range 6).all λ l=>evs true ((5:Nat):Int) l)=true:=by decide +kernel
theorem es5:((List.range 6).all λ l=>evs false ((5:Nat):Int) l && more ((5:Nat):Int) l)=true:=by decide +kernel
noncomputable def ns_ (a sh:Nat):Nat:=if sh=1 then (if a=1\/a=3\/a=4\/a=5 then 0 else 1) else 0
noncomputable def no_ (a:Nat) (odd:Bool):Bool:=if a=5\/a=9\/a=10 then odd else false
section
variable {a sh t l:Nat}{ring odd:Bool}
theorem Apg {n:Nat}(h:n<4):n=0\/n=1\/n=2\/n=3:=by omega
theorem six {n:Nat}(h:n<6):n=0\/n=1\/n=2\/n=3\/n=4\/n=5:=by omega
theorem Acj (h1:((List.range 6).all λ l=>evs true t l)=true) (h2:((List.range 6).all λ l=>evs false t l && more t l)=true) (hl:l<6):evs ring t l=true/\more t l=true :=
 ⟨by cases ring with
  | true=>exact Adg h1 hl
  | false=>exact (Bool.and_eq_true_iff.1 (Adg h2 hl)).1,(Bool.and_eq_true_iff.1 (Adg h2 hl)).2⟩
theorem An4 (ht:t<6) (hl:l<6):evs ring t l=true/\more t l=true:=by
 rcases six ht with rfl|rfl|rfl|rfl|rfl|rfl
 ·exact Acj er0 es0 hl
 ·exact Acj er1 es1 hl
 ·exact Acj er2 es2 hl
 ·exact Acj er3 es3 hl
 ·exact Acj er4 es4 hl
 ·exact Acj er5 es5 hl
theorem Ayb (h1:1<=a) (h2:a<=10) (hs:sh<4):cd (fn a (fl ring t l) (gg ring t l sh) (oo ring t l sh) (xx odd) (ss t l odd))=ev a ring (ns_ a sh) (no_ a odd) t l:=by
 rcases (by omega:a=1\/a=2\/a=3\/a=4\/a=5\/a=6\/a=7\/a=8\/a=9\/a=10) with rfl|rfl|rfl|rfl|rfl|rfl|rfl|rfl|rfl|rfl
 all_goals rcases Apg hs with rfl|rfl|rfl|rfl<;>rfl
theorem Atn:∀ a<11,∀ sh<4,∀ ring odd:Bool,1<=a->tab.any (λ q=>q.1 == a && q.2.1 == ns_ a sh && q.2.2 == no_ a odd)=true/\Xc a false ring (ns_ a sh) (no_ a odd)=Xc a false ring sh odd:=by decide
theorem Alk (h1:1<=a) (h2:a<=10) (hs:sh<4) (ht:t<6) (hl:l<6):cd (fn a (fl ring t l) (gg ring t l sh) (oo ring t l sh) (xx odd) (ss t l odd))=Xc a false ring sh odd:=by
 obtain⟨m,e⟩:=Atn a (by omega) sh hs ring odd h1
 rw [Ayb h1 h2 hs,<-e]
 obtain⟨⟨a',s',o'⟩,h,m⟩:=List.any_eq_true.1 m
 simp only [Bool.and_eq_true,beq_iff_eq] at m
 obtain⟨⟨rfl,rfl⟩,rfl⟩:=m
 simpa using List.all_eq_true.1 (An4 (ring:=ring) ht hl).1 _ h
theorem Axy (h:sh≠1):gg ring t l sh=gg ring t l 0:=by unfold gg;rw [if_neg h];rfl
theorem Aw2 (h:sh≠2):oo ring t l sh=oo ring t l 0:=by unfold oo;rw [if_neg h];rfl
theorem Aor:∀ a<17,∀ sh<4,∀ odd:Bool,10<a->Xc a false true sh odd=5/\Xc a false false sh odd=(if sh=1\/sh=2/\a<15 then 3 else 0):=by decide
theorem Amp (h1:10<a) (h2:a<17) (hs:sh<4) (ht:t<6) (hl:l<6):cd (fn a (fl ring t l) (gg ring t l sh) (oo ring t l sh) (xx odd) (ss t l odd))=Xc a false ring sh odd:=by
 have ht':(0:Int)<=t/\(t:Int)<6:=by omega
 have hl':(0:Int)<=l/\(l:Int)<6:=by omega
 obtain⟨d1,d2⟩:=Aor a h2 sh hs odd h1
 cases ring with
 | true=>rw [d1,Zi (F:=fl true t l) (Atu rfl rfl (Aak ht' hl')) h1 h2];rfl
 | false =>
  rw [d2]
  have cp:Cq [fl false t l]=.ok .non:=Atv rfl rfl (Zz ht' hl')
  have M:=(An4 (ring:=false) ht hl).2
  unfold more at M
  simp only [Bool.and_eq_true,beq_iff_eq,List.all_cons,List.all_nil,Bool.and_true] at M
  obtain⟨⟨⟨⟨m1,m2⟩,m3⟩,m4,m5,m6,m7⟩,m8,m9⟩:=M
  obtain⟨v,m1⟩:=Aqr m1
  have m2:=Ale (c:=1) m2
  have m3:=Ale (c:=1) m3
  by_cases z:sh=1
  ·subst z
   rw [if_pos (.inl rfl)]
   rcases Nat.lt_or_ge a 15 with q|q
   ·rw [Y5 ((Dh rfl rfl cp).trans (Gy rfl rfl m2)) h1 q];rfl
   ·rw [Ai4 ((Dh rfl rfl cp).trans (Aeh rfl rfl m2)) q h2];rfl
  ·rw [Axy z]
   by_cases y:sh=2/\a<15
   ·obtain⟨rfl,y⟩:=y
    rw [if_pos (.inr ⟨rfl,y⟩),Y5 ((Dh rfl rfl cp).trans ((Dh rfl rfl m1).trans (Aeh rfl rfl m3))) h1 y];rfl
   ·rw [if_neg (by omega)]
    have one:Eb [fl false t l,gg false t l 0]=.ok .non:=(Dh rfl rfl cp).trans (Aei rfl rfl m1)
    by_cases x:sh=2
    ·rcases (by omega:a=15\/a=16) with rfl|rfl
     ·exact (congrArg cd (Dh rfl rfl one)).trans m8
     ·exact (congrArg cd (Dh rfl rfl one)).trans m9
    ·rw [Aw2 x]
     have both:Bm [fl false t l,gg false t l 0,oo false t l 0]=.ok .non:=(Dh rfl rfl cp).trans ((Dh rfl rfl m1).trans (Aei rfl rfl m1))
     rcases (by omega:a=11\/a=12\/a=13\/a=14\/a=15\/a=16) with rfl|rfl|rfl|rfl|rfl|rfl
     ·exact (congrArg cd (Dh rfl rfl both)).trans m4
     ·exact (congrArg cd (Dh rfl rfl both)).trans m5
     ·exact (congrArg cd (Dh rfl rfl both)).trans m6
     ·exact (congrArg cd (Dh rfl rfl both)).trans m7
     ·exact (congrArg cd (Dh rfl rfl one)).trans m8
     ·exact (congrArg cd (Dh rfl rfl one)).trans m9
theorem Aoe (h2:a<17) (hs:sh<4) (ht:t<6) (hl:l<6):cd (fn a (fl ring t l) (gg ring t l sh) (oo ring t l sh) (xx odd) (ss t l odd))=Xc a false ring sh odd:=by
 rcases Nat.eq_zero_or_pos a with rfl|h1
 ·have ht':(0:Int)<=t/\(t:Int)<6:=by omega
  have hl':(0:Int)<=l/\(l:Int)<6:=by omega
  have e:Xc 0 false ring sh odd=0:=by simp [Xc]
  rw [e]
  cases ring with
  | true=>exact congrArg cd (Aak ht' hl')
  | false=>exact congrArg cd (Zz ht' hl')
 ·rcases Nat.lt_or_ge 10 a with y|y
  ·exact Amp y h2 hs ht hl
  ·exact Alk h1 y hs ht hl
end
theorem Oc (ns:List Int) (k:Nat):Ar [.scr ns,.int k]=.ok (.int (ns.getD k 0)):=by
 unfold Ar Lq
 simp
 by_cases h:k<ns.length
 ·have:fIx (.scr ns) (.int k)=some (.int ns[k]):=by
   show (atI ns (k:Int)).map D.int=_
   rw [Iw (x:=ns[k]) (by simp [h])];rfl
  simp [h,this]
 ·simp [h]
theorem Ao6 {t l:Nat}(ht:t<6) (hl:l<6) (ring:Bool):Iu [.int t,.int l,.bl ring]=.ok (.tup [fl ring t l,.lst (fg ring t l)]):=by
 rcases six ht with rfl|rfl|rfl|rfl|rfl|rfl
 all_goals
  rcases six hl with rfl|rfl|rfl|rfl|rfl|rfl
  all_goals cases ring<;>rfl
theorem Agy:∀ ring t l,fSl (.lst (fg ring t l)) none (some (-1))=some (.lst (fg ring t l).dropLast):=λ ring t l=>by cases ring<;>rfl
theorem Ahx:∀ ring t l,fIx (fl ring t l) (.int 0)=some (.tup [.int t,.int l]):=λ ring t l=>by cases ring<;>rfl
theorem Anx:∀ ring t l,V3 (.lst (fg ring t l))=some (.lst (fg ring t l)):=λ ring t l=>by cases ring<;>rfl
theorem An8 {ns:List Int}{a t l sh:Nat}{ring odd:Bool}{x0 x1 x2 x3 cell x5 x6:Int}(ha:a<17) (ht:t<6) (hl:l<6) (hs:sh<4) (c0:Ar [.scr ns,.int 0]=.ok (.int x0)) (c1:Ar [.scr ns,.int 1]=.ok (.int x1)) (c2:Ar [.scr ns,.int 2]=.ok (.int x2)) (c3:Ar [.scr ns,.int 3]=.ok (.int x3)) (c4:Ar [.scr ns,.int 4]=.ok (.int cell)) (c5:Ar [.scr ns,.int 5]=.ok (.int x5)) (c6:Ar [.scr ns,.int 6]=.ok (.int x6)) (h0:x0 % 17=a) (h1:x1 % 6=t) (h2:x2 % 6=l) (h3:decide (x3 % 3=1)=ring) (h5:x5 % 4=sh) (h6:decide (x6 % 2=1)=odd):M6 [.scr ns]=.ok (.bl true):=by
 have ht':(0:Int)<=t/\(t:Int)<6:=by omega
 have hl':(0:Int)<=l/\(l:Int)<6:=by omega
 obtain⟨F',sp,as⟩:∃ F':D,Dg [fl ring t l,.int cell]=.ok F'/\∀ g o x s:D,g=gg ring t l sh->o=oo ring t l sh->x=xx odd->s=ss t l odd->Es [.int a,F',g,o,x,s]=.ok (.int (val (Xc a (decide (0<cell % 7)) ring sh odd))):=by
  have hF:IsFloor (if ring then rg8 t l else sq4 t l):=by cases ring with
   | true=>exact Aar ht' hl'
   | false=>exact Aai ht' hl'
  have hn:2<=(if ring then rg8 (t:Int) l else sq4 t l).length/\(if ring then rg8 (t:Int) l else sq4 t l).length<=100:=by cases ring<;>simp [rg8,sq4]
  obtain⟨p,q⟩:=Ahb hF hn.1 hn.2 cell
  by_cases hk:cell % 7=0
  ·refine⟨_,p hk,?_⟩
   rintro _ _ _ _ rfl rfl rfl rfl
   rw [Ae9 ha,show decide (0<cell % 7)=false by rw [hk];rfl]
   exact Ao0 (Aoe ha hs ht hl)
  ·obtain⟨G,e1,e2⟩:=q hk
   refine⟨_,e1,λ g o x s _ _ _ _=>?_⟩
   rw [Ae9 ha,Ahz e2 ha,show decide (0<cell % 7)=true from decide_eq_true (by omega)]
   rfl
 have dv:=Aty ha hs (decide (0<cell % 7)) ring odd
 have mv:=Ao6 ht hl ring
 have o1:=Agy ring t l
 have o2:=Ahx ring t l
 have o3:=Anx ring t l
 rcases Apg hs with rfl|rfl|rfl|rfl
 all_goals cases odd
 all_goals
  have A:=as _ _ _ _ rfl rfl rfl rfl
  simp [gg,oo,xx,ss] at A
  unfold M6 Aqb
  simp at dv h5
  simp [c0,c1,c2,c3,c4,c5,c6,h0,h1,h2,h3,h5,h6,mv,sp,o1,o2,o3,A,dv]
theorem law_true:∀ ns:List Int,ns.length<=63->M6 [.scr ns]=.ok (.bl true):=λ ns _=>by
 have q:∀ (i:Int) (n:Nat),0<n->∃ a:Nat,a<n/\i % (n:Int)=a:=λ i n h=>⟨(i % (n:Int)).toNat,by have:=Int.emod_lt_of_pos i (b:=(n:Int)) (by omega);have:=Int.emod_nonneg i (b:=(n:Int)) (by omega);omega,by have:=Int.emod_nonneg i (b:=(n:Int)) (by omega);omega⟩
 obtain⟨a,ha,h0⟩:=q (ns.getD 0 0) 17 (by decide)
 obtain⟨t,ht,h1⟩:=q (ns.getD 1 0) 6 (by decide)
 obtain⟨l,hl,h2⟩:=q (ns.getD 2 0) 6 (by decide)
 obtain⟨sh,hs,h5⟩:=q (ns.getD 5 0) 4 (by decide)
 exact An8 ha ht hl hs (Oc ns 0) (Oc ns 1) (Oc ns 2) (Oc ns 3) (Oc ns 4) (Oc ns 5) (Oc ns 6) h0 h1 h2 rfl h5 rfl
end M
set_option maxHeartbeats 4000000
namespace M
open PySem PySem.Spec PyProof.Rows L2
local macro_rules | `(tactic| walk_at "s")=>`(tactic| exact ⟨rfl,rfl,rfl,by decide +kernel,rfl,by decide +kernel,by decide +kernel⟩)
local macro_rules | `(tactic| walk_at "c")=>`(tactic| repeat first | exact True.intro | refine And.intro (by first | (intro h; exact absurd h (by decide)) | (intro _; exact Or.inl rfl) | (intro _; exact Or.inr rfl)) ?_)
local macro_rules | `(tactic| walk_at "b")=>`(tactic| (intro _ _ _ _ _ _ us hl; first | (obtain ⟨_,h⟩:=len1 hl; subst h; exact rfl) | (obtain ⟨_,_,h⟩:=len2 hl; subst h; exact rfl) | (obtain ⟨_,_,_,h⟩:=Aun hl; subst h; exact rfl) | (obtain ⟨_,_,_,_,h⟩:=Avq hl; subst h; exact rfl) | (obtain ⟨_,_,_,_,_,h⟩:=Au2 hl; subst h; exact rfl) | (obtain ⟨_,_,_,_,_,_,h⟩:=Aw1 hl; subst h; exact rfl)))
noncomputable def top (i:Nat):Stmt:=PySem.Challenge.pw_flagfloor_k18_which_refusal.main.body.getD i (.Pass ⟨0,0,0,0⟩)
structure Txt (mg:Str->Option Value):Prop where
 g_SIDE:∃ t,mg "SIDE"=some (.int 8 t)
 g_zip:mg "zip"=none
 g_dict:mg "dict"=none
 g_max:mg "max"=none
 g_min:mg "min"=none
 g_range:mg "range"=none
 g_len:mg "len"=none
 g_PLACES:∃ t,mg "PLACES"=some (.int 100 t)
 g_all:mg "all"=none
 g_sorted:mg "sorted"=none
 g_list:mg "list"=none
 g_any:mg "any"=none
 g_ROWBITS:∃ t,mg "ROW_BITS"=some (.int 9 t)
 g_sum:mg "sum"=none
 g_divmod:mg "divmod"=none
 g_BARE:∃ t,mg "BARE"=some (.str "." t)
 g_isinstance:mg "isinstance"=none
 g_ValueError:mg "ValueError"=none
structure Exs (K:PySem.W.Frag) (mg:Str->Option Value) (cFloorError cNoFloor cNoLaying cNoNumber cNoTurn cNotPlain cNoNote:Addr):Prop where
 m_NoFloor:mg "NoFloor"=some (.ref cNoFloor)
 m_NoLaying:mg "NoLaying"=some (.ref cNoLaying)
 m_NoTurn:mg "NoTurn"=some (.ref cNoTurn)
 m_NotPlain:mg "NotPlain"=some (.ref cNotPlain)
 m_NoNumber:mg "NoNumber"=some (.ref cNoNumber)
 m_FloorError:mg "FloorError"=some (.ref cFloorError)
 m_NoNote:mg "NoNote"=some (.ref cNoNote)
 t_FloorError:XTop K cFloorError
 t_NoFloor:XTop K cNoFloor
 t_NoLaying:XTop K cNoLaying
 t_NotPlain:XTop K cNotPlain
 t_NoTurn:XTop K cNoTurn
 t_NoNumber:XTop K cNoNumber
 t_NoNote:XTop K cNoNote
 x_NoFloor:PySem.W.excIn K cNoFloor [.type "ValueError",.type "Exception",.type "BaseException",.type "object"] "ValueError.__new__"=true
 x_NoLaying:PySem.W.excIn K cNoLaying [.type "ValueError",.type "Exception",.type "BaseException",.type "object"] "ValueError.__new__"=true
 x_NoTurn:PySem.W.excIn K cNoTurn [.type "ValueError",.type "Exception",.type "BaseException",.type "object"] "ValueError.__new__"=true
 x_NotPlain:PySem.W.excIn K cNotPlain [.type "ValueError",.type "Exception",.type "BaseException",.type "object"] "ValueError.__new__"=true
 x_NoNumber:PySem.W.excIn K cNoNumber [.type "ValueError",.type "Exception",.type "BaseException",.type "object"] "ValueError.__new__"=true
 s_NoFloor_FloorError:PySem.W.mroIn K cNoFloor (.ref cFloorError)=some true
 s_NoLaying_FloorError:PySem.W.mroIn K cNoLaying (.ref cFloorError)=some true
 s_NotPlain_FloorError:PySem.W.mroIn K cNotPlain (.ref cFloorError)=some true
 s_NoTurn_FloorError:PySem.W.mroIn K cNoTurn (.ref cFloorError)=some true
 s_NoNumber_FloorError:PySem.W.mroIn K cNoNumber (.ref cFloorError)=some true
 k_NoFloor_NoFloor:PySem.W.kitOne K (.ref cNoFloor) (.ref cNoFloor)=some true
 k_NoFloor_NotPlain:PySem.W.kitOne K (.ref cNoFloor) (.ref cNotPlain)=some false
 k_NoFloor_NoLaying:PySem.W.kitOne K (.ref cNoFloor) (.ref cNoLaying)=some false
 k_NoFloor_NoNumber:PySem.W.kitOne K (.ref cNoFloor) (.ref cNoNumber)=some false
 k_NoFloor_NoTurn:PySem.W.kitOne K (.ref cNoFloor) (.ref cNoTurn)=some false
 k_NoFloor_NoNote:PySem.W.kitOne K (.ref cNoFloor) (.ref cNoNote)=some false
 k_NoLaying_NoFloor:PySem.W.kitOne K (.ref cNoLaying) (.ref cNoFloor)=some false
 k_NoLaying_NotPlain:PySem.W.kitOne K (.ref cNoLaying) (.ref cNotPlain)=some false
 k_NoLaying_NoLaying:PySem.W.kitOne K (.ref cNoLaying) (.ref cNoLaying)=some true
 k_NoLaying_NoNumber:PySem.W.kitOne K (.ref cNoLaying) (.ref cNoNumber)=some false
 k_NoLaying_NoTurn:PySem.W.kitOne K (.ref cNoLaying) (.ref cNoTurn)=some false
 k_NoLaying_NoNote:PySem.W.kitOne K (.ref cNoLaying) (.ref cNoNote)=some false
 k_NotPlain_NoFloor:PySem.W.kitOne K (.ref cNotPlain) (.ref cNoFloor)=some false
 k_NotPlain_NotPlain:PySem.W.kitOne K (.ref cNotPlain) (.ref cNotPlain)=some true
 k_NotPlain_NoLaying:PySem.W.kitOne K (.ref cNotPlain) (.ref cNoLaying)=some false
 k_NotPlain_NoNumber:PySem.W.kitOne K (.ref cNotPlain) (.ref cNoNumber)=some false
 k_NotPlain_NoTurn:PySem.W.kitOne K (.ref cNotPlain) (.ref cNoTurn)=some false
 k_NotPlain_NoNote:PySem.W.kitOne K (.ref cNotPlain) (.ref cNoNote)=some false
 k_NoTurn_NoFloor:PySem.W.kitOne K (.ref cNoTurn) (.ref cNoFloor)=some false
 k_NoTurn_NotPlain:PySem.W.kitOne K (.ref cNoTurn) (.ref cNotPlain)=some false
 k_NoTurn_NoLaying:PySem.W.kitOne K (.ref cNoTurn) (.ref cNoLaying)=some false
 k_NoTurn_NoNumber:PySem.W.kitOne K (.ref cNoTurn) (.ref cNoNumber)=some false
 k_NoTurn_NoTurn:PySem.W.kitOne K (.ref cNoTurn) (.ref cNoTurn)=some true
 k_NoTurn_NoNote:PySem.W.kitOne K (.ref cNoTurn) (.ref cNoNote)=some false
 k_NoNumber_NoFloor:PySem.W.kitOne K (.ref cNoNumber) (.ref cNoFloor)=some false
 k_NoNumber_NotPlain:PySem.W.kitOne K (.ref cNoNumber) (.ref cNotPlain)=some false
 k_NoNumber_NoLaying:PySem.W.kitOne K (.ref cNoNumber) (.ref cNoLaying)=some false
 k_NoNumber_NoNumber:PySem.W.kitOne K (.ref cNoNumber) (.ref cNoNumber)=some true
 k_NoNumber_NoTurn:PySem.W.kitOne K (.ref cNoNumber) (.ref cNoTurn)=some false
 k_NoNumber_NoNote:PySem.W.kitOne K (.ref cNoNumber) (.ref cNoNote)=some false
 b_NoFloor_ValueError:PySem.W.kitOne K (.ref cNoFloor) (.type "ValueError")=some true
 b_NoLaying_ValueError:PySem.W.kitOne K (.ref cNoLaying) (.type "ValueError")=some true
 b_NotPlain_ValueError:PySem.W.kitOne K (.ref cNotPlain) (.type "ValueError")=some true
 b_NoTurn_ValueError:PySem.W.kitOne K (.ref cNoTurn) (.type "ValueError")=some true
 b_NoNumber_ValueError:PySem.W.kitOne K (.ref cNoNumber) (.type "ValueError")=some true
section
variable {cFloorError cNoFloor cNoLaying cNoNumber cNoTurn cNotPlain cNoNote:Addr}{P:Program}{w:World}{f:Addr}{fd:FuncData}{K:PySem.W.Frag}{mg:Str->Option Value}{base:Heap}
abbrev Gk:Stmt:=top 59
theorem Oj:FnScope ["bare"] ["bare"] (Ah Gk):=by walk_at "s"
abbrev Cd:Stmt:=top 60
theorem Nq:FnScope ["bare","way"] ["bare","way"] (Ah Cd):=by walk_at "s"
abbrev Ge:Stmt:=top 61
theorem Ng:FnScope ["bare","way","known","span"] ["bare","way","known"] (Ah Ge):=by walk_at "s"
abbrev Gj:Stmt:=top 62
theorem M9:FnScope ["bare","known"] ["bare","known"] (Ah Gj):=by walk_at "s"
theorem Gr {f:Addr}{fd:FuncData}(Ds:Dfn K mg "span_on_first" Cd f fd) (SA:∃ a,mg "SPANS"=some (.ref a)/\∀ H,SqT K H a [.int 3,.int 513]):FnOk P w K mg base CX0 1 f fd ["bare","way"] spS:=by
 obtain⟨a,h1,h2⟩:=SA
 exact Ds.fn.ok Nq (λ _ _ _ _ h=>Al4 h) λ cdv A outer s H vs Q E hr h=>⟨_,Ca (G4 (Jk Aiv (Jk Adx (pv 0) (Amv Ad3 (pv 0))) (Af0 W2 (Ms (v:=V.ref a) (by rfl) h1 rfl) (pv 1) (λ _ _=>rfl)))),Abd (D:=⟨λ _ _=>False,λ _ _=>False,λ _ _=>False,λ _ _=>False⟩) (h2 H) h⟩
theorem Js {n:Nat}{fs fw fo:Addr}{fds fdw fdo:FuncData}(Ds:Dfn K mg "span_on_first" Cd fs fds) (Dw:Dfn K mg "ways_with" Ge fw fdw) (Do:Dfn K mg "ways_over" Gj fo fdo) (SA:∃ a,mg "SPANS"=some (.ref a)/\∀ H,SqT K H a [.int 3,.int 513]) (ih:FnOk P w K mg base CX0 (2 * n+1) fo fdo ["bare","known"] (spO n)):FnOk P w K mg base CX0 (2 * n+2) fw fdw ["bare","way","known"] (spW n):=by
 have Fs:=Gr (P:=P) (w:=w) (base:=base) Ds SA
 exact Dw.fn.ok Ng (λ _ _ _ _ h=>Alu h) λ cdv A outer s H vs Q E hr h=>⟨_,Bg (Er (i:=3) Ng.nd rfl (Or.inl rfl) (Di Fs (hr.mono (by omega)) (by rfl) Ds.mg Ds.fn.kp (Ds.fn.binds (by walk_at "b")) .nil Ja (Ak (pv 0) (Ak (pv 1) Bl))))
  (Bg (Lb (Iz Alq (Jk Adx (pv 0) (pv 3)) (pv 3) (Gm _)) (Ca (G4 Cu)) Gv) (Ca (G4 (Di ih hr (by rfl) Do.mg Do.fn.kp (Do.fn.binds (by walk_at "b")) .nil Ja (Ak (Jk W9 (pv 0) (pv 3)) (Ak (pv 2) Bl)))))),Aci h⟩
theorem Hq {fs fw fo:Addr}{fds fdw fdo:FuncData}(Ds:Dfn K mg "span_on_first" Cd fs fds) (Dw:Dfn K mg "ways_with" Ge fw fdw) (Do:Dfn K mg "ways_over" Gj fo fdo) (SA:∃ a,mg "SPANS"=some (.ref a)/\∀ H,SqT K H a [.int 3,.int 513]) :
  ∀ n:Nat,FnOk P w K mg base CX0 (2 * n+1) fo fdo ["bare","known"] (spO n)
 | 0=>Do.fn.ok M9 (λ _ _ _ _ h=>Ac1 h) λ cdv A outer s H vs Q E hr h=>⟨_,Bg (Lb (Iz Ail (pv 0) Cu (Gm _)) (Ca (G4 Cu)) Gv)
   (Bg (Lb (R8 (Ql (Aa3 hr) (pv 0) (pv 1))) (Ca (Uu (Aa3 hr) (pv 1) (pv 0) (Jk Qp (Di (Ac3 (k:=0) (ps:=["bare","way","known"])) hr (by rfl) Dw.mg Dw.fn.kp (Dw.fn.binds (by walk_at "b")) .nil Ja (Ak (pv 0) (Ak Cu (Ak (pv 1) Bl)))) (Di (Ac3 (k:=0) (ps:=["bare","way","known"])) hr (by rfl) Dw.mg Dw.fn.kp (Dw.fn.binds (by walk_at "b")) .nil Ja (Ak (pv 0) (Ak Cu (Ak (pv 1) Bl))))) rfl)) Gv)
   (Ca (G4 (Yn (Aa3 hr) (pv 1) (pv 0) (λ _ _=>rfl))))),Y7 h⟩
 | n+1=>by
  have ih:=Hq Ds Dw Do SA n
  have Fw:=Js Ds Dw Do SA ih
  exact Do.fn.ok M9 (λ _ _ _ _ h=>Ac1 h) λ cdv A outer s H vs Q E hr h=>⟨_,Bg (Lb (Iz Ail (pv 0) Cu (Gm _)) (Ca (G4 Cu)) Gv)
   (Bg (Lb (R8 (Ql (Aa3 hr) (pv 0) (pv 1))) (Ca (Uu (Aa3 hr) (pv 1) (pv 0) (Jk Qp (Di Fw hr (by rfl) Dw.mg Dw.fn.kp (Dw.fn.binds (by walk_at "b")) .nil Ja (Ak (pv 0) (Ak Cu (Ak (pv 1) Bl)))) (Di Fw hr (by rfl) Dw.mg Dw.fn.kp (Dw.fn.binds (by walk_at "b")) .nil Ja (Ak (pv 0) (Ak Cu (Ak (pv 1) Bl))))) rfl)) Gv)
   (Ca (G4 (Yn (Aa3 hr) (pv 1) (pv 0) (λ _ _=>rfl))))),Aa7 h⟩
theorem Pu {f:Addr}{fd:FuncData}(Df:Dfn K mg "first_square" Gk f fd) (T:Txt mg):FnOk P w K mg base CX0 1 f fd ["bare"] spF:=by
 obtain⟨t,hR⟩:=T.g_ROWBITS
 exact Df.fn.ok Oj (λ _ _ _ _ h=>Amj h) λ cdv A outer s H vs Q E hr h=>⟨_,Ca (G4 (Ls Xh (by rfl) T.g_divmod (by rfl) (Ak (Jk W9 (Ajt PySem.F.plainAttrs_int PySem.F.slot_int_bit_length PySem.F.type_int_bit_length Ak6 (Jk Adx (pv 0) (Amv Ad3 (pv 0)))) Cu) (Ak (Ms (v:=V.int 9) (by rfl) hR ⟨t,rfl⟩) Bl)))),Xu h⟩
abbrev Mu:Stmt:=top 11
theorem Yk:FnScope ["square"] ["square"] (Ah Mu):=by walk_at "s"
theorem Yl (Dn:Dfn K mg "on_board" Mu f fd) (T:Txt mg) :Cal P w K mg base "on_board" ["square"] 1 G8 :=
 ⟨f,fd,Dn.mg,Dn.fn.kp,Dn.fn.binds (by walk_at "b"),Cm Dn.fn Yk λ cdv A outer s H E hr gd G hx =>
  Ai (Ax (Ai7 (Aol Ap6 Z0 (SF.se (Ad)) (SF.se (Bs (Ae 0) (SF.se (Ad)))) (SF.se (J4 T.g_SIDE (by rfl)))) (Aiy (Aol Ap6 Z0 (SF.se (Ad)) (SF.se (Bs (Ae 0) (SF.se (Ad)))) (SF.se (J4 T.g_SIDE (by rfl)))))))⟩
abbrev Jd:Stmt:=top 12
theorem Q8:FnScope ["floor","square","earlier","later"] ["floor"] (Ah Jd):=by walk_at "s"
theorem Q7 (Dn:Dfn K mg "check_floor" Jd f fd) (T:Txt mg) (XT:Exs K mg cFloorError cNoFloor cNoLaying cNoNumber cNoTurn cNotPlain cNoNote) (C_on_board:Cal P w K mg base "on_board" ["square"] 1 G8):CalE P w K mg base "check_floor" ["floor"] 2 Aq :=
 ⟨f,fd,Dn.mg,Dn.fn.kp,Dn.fn.binds (by walk_at "b"),Apm Dn.fn Q8 λ cdv A outer s H E hr gd gE G lk =>
  Af (Zb gE (Dv (Ac 0)) (Br gE 1) (λ _ e1 h1=>Ai (Bx (Cv λ G hx=>(Vj (Gq (SF.se (Az (ps:=["square"]) (by exact C_on_board) hx (by exact hr) (by decide) (by rfl) (Aa (Ac 1) (Ag))))))) (Ai (Li 0 PySem.F.excBase_ValueError (Link.mono lk e1 h1) rfl rfl (by rfl) XT.m_NoFloor XT.x_NoFloor)) (Bf))))
  (Ai (Zb gE (Ajd  (by rfl) T.g_zip (Ac 0) (Dy (Ae 0) (Fj (SF.se (Ad))) (Fp))) (Ox gE 2 3) (λ _ e2 h2=>Ai (Bx (Cv λ G hx=>(Vj (Ap5 gd (Ae 2) (Ae 3)))) (Ai (Li 0 PySem.F.excBase_ValueError (Link.mono lk e2 h2) rfl rfl (by rfl) XT.m_NoFloor XT.x_NoFloor)) (Bf)))))⟩
abbrev Ub:Stmt:=top 13
theorem Aey:FnScope ["floor","square"] ["floor"] (Ah Ub):=by walk_at "s"
theorem Aet (Dn:Dfn K mg "marked" Ub f fd) (T:Txt mg) :Cal P w K mg base "marked" ["floor"] 1 Fg :=
 ⟨f,fd,Dn.mg,Dn.fn.kp,Dn.fn.binds (by walk_at "b"),Cm Dn.fn Aey λ cdv A outer s H E hr gd G hx =>
  Ai (Ax (SN.sf (Ym gd  (by rfl) T.g_dict (SN.se (Dj gd hx (Dv (Ac 0)) (⟨Il rfl (by decide +kernel) (by decide +kernel) (by walk_at "c"),Fe (N:=["floor","square"]) (by decide +kernel),Hr _ ,λ _ _ _ _=>Br (Du gd) 1,λ _ _ _ _ _ e1=>Ig,λ _ _ _ _ _ e1=>Bh (Aa (Ac 1) (Aa (Rg) (Ag)))⟩))))))⟩
abbrev Jr:Stmt:=top 14
theorem Uc:FnScope ["square","squares","row","column","near","other"] ["square","squares"] (Ah Jr):=by walk_at "s"
theorem Ux (Dn:Dfn K mg "neighbours" Jr f fd) (T:Txt mg) :Cal P w K mg base "neighbours" ["square","squares"] 1 Fq :=
 ⟨f,fd,Dn.mg,Dn.fn.kp,Dn.fn.binds (by walk_at "b"),Cm Dn.fn Uc λ cdv A outer s H E hr gd G hx =>
  Af (Ba 2 (Bs (Ae 0) (SF.se (Ad))) gd.nd)
  (Af (Ba 3 (Bs (Ae 0) (SF.se (Ad))) gd.nd)
  (Af (Ba 4 (SN.sf (Em (Aa (Bh (Aa (Dq (Ae 2) (SF.se (Ad))) (Aa (Ac 3) (Ag)))) (Aa (Bh (Aa (Ac 2) (Aa (Dq (Ae 3) (SF.se (Ad))) (Ag)))) (Aa (Bh (Aa (Ac 2) (Aa (Bj (Ae 3) (SF.se (Ad))) (Ag)))) (Aa (Bh (Aa (Bj (Ae 2) (SF.se (Ad))) (Aa (Ac 3) (Ag)))) (Ag))))))) gd.nd)
  (Ai (Ax (SN.sf (Dj gd hx (Dv (Ac 4)) (⟨Il rfl (by decide +kernel) (by decide +kernel) (by walk_at "c"),Fe (N:=["square","squares","row","column","near","other"]) (by decide +kernel),Hr _ ,λ _ _ _ _=>Br (Du gd) 5,λ _ _ _ _ _ e1=>Rx (Apj (Du gd) (Ae 5) (Ae 1)),λ _ _ _ _ _ e1=>Ac 5⟩)))))))⟩
abbrev Hs:Stmt:=top 15
theorem Ou:FnScope ["place","about","row","column"] ["place"] (Ah Hs):=by walk_at "s"
theorem Pn (Dn:Dfn K mg "places_about" Hs f fd) (T:Txt mg) :Cal P w K mg base "places_about" ["place"] 1 Ec :=
 ⟨f,fd,Dn.mg,Dn.fn.kp,Dn.fn.binds (by walk_at "b"),Cm Dn.fn Ou λ cdv A outer s H E hr gd G hx =>
  Af (Jl 1 (Em (Ag)) gd.nd)
  (Af (J2 gd (Vw  (by rfl) T.g_range (Ac7 gd  (by rfl) T.g_max (SF.se (Dq (SF.se (Bs (Ae 0) (SF.se (Ad)))) (SF.se (Ad)))) (SF.se (J1 (SF.se (Ad))))) (Bj (SF.se (Af2 gd  (by rfl) T.g_min (SF.se (Bj (SF.se (Bs (Ae 0) (SF.se (Ad)))) (SF.se (Ad)))) (SF.se (J4 T.g_SIDE (by rfl))))) (SF.se (Ad)))) (Br gd 2) (λ _ e1=>Ai (J2 gd (Vw  (by rfl) T.g_range (Ac7 gd  (by rfl) T.g_max (SF.se (Dq (SF.se (Bs (Ae 0) (SF.se (Ad)))) (SF.se (Ad)))) (SF.se (J1 (SF.se (Ad))))) (Bj (SF.se (Af2 gd  (by rfl) T.g_min (SF.se (Bj (SF.se (Bs (Ae 0) (SF.se (Ad)))) (SF.se (Ad)))) (SF.se (J4 T.g_SIDE (by rfl))))) (SF.se (Ad)))) (Br gd 3) (λ _ e2=>Ai (Z1 1 (Bh (Aa (Ac 2) (Aa (Ac 3) (Ag)))))))))
  (Ai (Pq 1 (Ax (Ac 1)))))⟩
abbrev Gi:Stmt:=top 16
theorem Lp:FnScope ["squares","start","reached","waiting","place","near"] ["squares"] (Ah Gi):=by walk_at "s"
theorem Lf (Dn:Dfn K mg "reached_outside" Gi f fd) (T:Txt mg) (C_places_about:Cal P w K mg base "places_about" ["place"] 1 Ec):Cal P w K mg base "reached_outside" ["squares"] 2 Ck :=
 ⟨f,fd,Dn.mg,Dn.fn.kp,Dn.fn.binds (by walk_at "b"),Cm Dn.fn Lp λ cdv A outer s H E hr gd G hx =>
  Af (Ba 1 (Bh (Aa (J1 (SF.se (Ad))) (Aa (J1 (SF.se (Ad))) (Ag)))) gd.nd)
  (Af (Jl 2 (Aua gd (Ac 1) (Rg)) gd.nd)
  (Af (Jl 3 (Em (Aa (Ac 1) (Ag))) gd.nd)
  (Af (Tz gd fuel (Aio (Ae 3)) (Af (Arb 3 4 gd.nd)
  (Ai (J2 gd (Dv (Az (ps:=["place"]) (by exact C_places_about) hx (by exact hr) (by decide) (by rfl) (Aa (Ac 4) (Ag)))) (Br gd 5) (λ _ e1=>Ai (Bx (SW.st (R5 (Lx gd (Ae 5) (Ae 0)) (M4 (Lx gd (Ae 5) (Ae 2))))) (Af (S9 2 (hu1 gd) (Ae 5) (Rg))
  (Ai (Z1 3 (Ac 5)))) (Bf)))))))
  (Ai (Pq 2 (Ax (Ac 2)))))))⟩
abbrev Mt:Stmt:=top 17
theorem Xj:FnScope ["floor"] ["floor"] (Ah Mt):=by walk_at "s"
theorem Xn (Dn:Dfn K mg "is_plain" Mt f fd) (T:Txt mg) (C_check_floor:CalE P w K mg base "check_floor" ["floor"] 2 Aq) (C_reached_outside:Cal P w K mg base "reached_outside" ["squares"] 2 Ck) (C_marked:Cal P w K mg base "marked" ["floor"] 1 Fg):CalE P w K mg base "is_plain" ["floor"] 3 Bv :=
 ⟨f,fd,Dn.mg,Dn.fn.kp,Dn.fn.binds (by walk_at "b"),Dl Dn.fn Xj λ cdv A outer s H E hr gd G lk =>
  Af (Bb (SF.se (Ay (ps:=["floor"]) (by exact C_check_floor) lk (by exact hr) (by decide) (by rfl) λ G hx=>(Aa (Ac 0) (Ag)))))
  (Ai (Cj λ G hx=>(Ax (Abt gd (SF.se (Bj (SF.se (Ov  (by rfl) T.g_len (SF.se (Az (ps:=["squares"]) (by exact C_reached_outside) hx (by exact hr) (by decide) (by rfl) (Aa (Az (ps:=["floor"]) (by exact C_marked) hx (by exact hr) (by decide) (by rfl) (Aa (Ac 0) (Ag))) (Ag)))))) (SF.se (Ov  (by rfl) T.g_len (Ae 0))))) (SF.se (J4 T.g_PLACES (by rfl)))))))⟩
abbrev Jq:Stmt:=top 18
theorem Tp:FnScope ["corner","row","column"] ["corner"] (Ah Jq):=by walk_at "s"
theorem Uz (Dn:Dfn K mg "squares_at" Jq f fd) (T:Txt mg) :Cal P w K mg base "squares_at" ["corner"] 1 Jg :=
 ⟨f,fd,Dn.mg,Dn.fn.kp,Dn.fn.binds (by walk_at "b"),Cm Dn.fn Tp λ cdv A outer s H E hr gd G hx =>
  Af (Ba 1 (Bs (Ae 0) (SF.se (Ad))) gd.nd)
  (Af (Ba 2 (Bs (Ae 0) (SF.se (Ad))) gd.nd)
  (Ai (Ax (SN.sf (Em (Aa (Bh (Aa (Dq (Ae 1) (SF.se (Ad))) (Aa (Dq (Ae 2) (SF.se (Ad))) (Ag)))) (Aa (Bh (Aa (Dq (Ae 1) (SF.se (Ad))) (Aa (Ac 2) (Ag)))) (Aa (Bh (Aa (Ac 1) (Aa (Dq (Ae 2) (SF.se (Ad))) (Ag)))) (Aa (Bh (Aa (Ac 1) (Aa (Ac 2) (Ag)))) (Ag))))))))))⟩
abbrev Za:Stmt:=top 19
theorem Ahg:FnScope ["floor","squares","corner","square"] ["floor"] (Ah Za):=by walk_at "s"
theorem Ais (Dn:Dfn K mg "inner" Za f fd) (T:Txt mg) (C_check_floor:CalE P w K mg base "check_floor" ["floor"] 2 Aq) (C_marked:Cal P w K mg base "marked" ["floor"] 1 Fg) (C_squares_at:Cal P w K mg base "squares_at" ["corner"] 1 Jg):CalE P w K mg base "inner" ["floor"] 3 Fd :=
 ⟨f,fd,Dn.mg,Dn.fn.kp,Dn.fn.binds (by walk_at "b"),Dl Dn.fn Ahg λ cdv A outer s H E hr gd G lk =>
  Af (Bb (SF.se (Ay (ps:=["floor"]) (by exact C_check_floor) lk (by exact hr) (by decide) (by rfl) λ G hx=>(Aa (Ac 0) (Ag)))))
  (Af (Cj λ G hx=>(Ba 1 (Az (ps:=["floor"]) (by exact C_marked) hx (by exact hr) (by decide) (by rfl) (Aa (Ac 0) (Ag))) gd.nd))
  (Ai (Cj λ G hx=>(Ax (SN.sf (Dj gd hx (Dv (Ac 0)) (⟨Il rfl (by decide +kernel) (by decide +kernel) (by walk_at "c"),Fe (N:=["floor","squares","corner","square"]) (by decide +kernel),Hr _ ,λ _ _ _ _=>Br (Du gd) 2,λ _ _ _ _ _ e1=>Rx (Gq (SF.se (Aav (Du gd)  (by rfl) T.g_all (SN.se (Dj (Du gd) (K4 e1 hx) (Dv (Az (ps:=["corner"]) (by exact C_squares_at) (K4 e1 hx) (by exact hr) (by decide) (by rfl) (Aa (Ac 2) (Ag)))) (⟨Il rfl (by decide +kernel) (by decide +kernel) (by walk_at "c"),Fe (N:=["floor","squares","corner","square"]) (by decide +kernel),Hr _ ,λ _ _ _ _=>Br (Du (Du gd)) 3,λ _ _ _ _ _ e2=>Ig,λ _ _ _ _ _ e2=>Alv (Du (Du gd)) (Ae 3) (Ae 1)⟩)))))),λ _ _ _ _ _ e1=>Ac 2⟩)))))))⟩
abbrev G5:Stmt:=top 21
theorem Nu:FnScope ["flag","row","column"] ["flag"] (Ah G5):=by walk_at "s"
theorem Nm (Dn:Dfn K mg "squares_under" G5 f fd) (T:Txt mg) :Cal P w K mg base "squares_under" ["flag"] 1 Dm :=
 ⟨f,fd,Dn.mg,Dn.fn.kp,Dn.fn.binds (by walk_at "b"),Cm Dn.fn Nu λ cdv A outer s H E hr gd G hx =>
  Af (Ba 1 (Bs (Ae 0) (SF.se (Ad))) gd.nd)
  (Af (Ba 2 (Bs (Ae 0) (SF.se (Ad))) gd.nd)
  (Af (Bx (Dt gd (SF.se (Bs (Ae 0) (SF.se (Ad)))) (SF.se (Ad))) (Ai (Ax (SN.sf (Em (Aa (Bh (Aa (Ac 1) (Aa (Ac 2) (Ag)))) (Aa (Bh (Aa (Ac 1) (Aa (Bj (Ae 2) (SF.se (Ad))) (Ag)))) (Ag))))))) (Bf))
  (Ai (Ax (SN.sf (Em (Aa (Bh (Aa (Ac 1) (Aa (Ac 2) (Ag)))) (Aa (Bh (Aa (Bj (Ae 1) (SF.se (Ad))) (Aa (Ac 2) (Ag)))) (Ag)))))))))⟩
abbrev Hu:Stmt:=top 22
theorem Qq:FnScope ["flags","earlier","later"] ["flags"] (Ah Hu):=by walk_at "s"
theorem Pa (Dn:Dfn K mg "are_in_order" Hu f fd) (T:Txt mg) :Cal P w K mg base "are_in_order" ["flags"] 1 G9 :=
 ⟨f,fd,Dn.mg,Dn.fn.kp,Dn.fn.binds (by walk_at "b"),Cm Dn.fn Qq λ cdv A outer s H E hr gd G hx =>
  Ai (Ax (Aav gd  (by rfl) T.g_all (SN.se (Dj gd hx (Ajd  (by rfl) T.g_zip (Ac 0) (Dy (Ae 0) (Fj (SF.se (Ad))) (Fp))) (⟨Il rfl (by decide +kernel) (by decide +kernel) (by walk_at "c"),Fe (N:=["flags","earlier","later"]) (by decide +kernel),Vm _ _,λ _ _ _ _=>Ox (Du gd) 1 2,λ _ _ _ _ _ e1=>Ig,λ _ _ _ _ _ e1=>Ase (Du gd) (SF.se (Dy (Ae 1) (Fp) (Fj (SF.se (Ad))))) (SF.se (Dy (Ae 2) (Fp) (Fj (SF.se (Ad)))))⟩)))))⟩
abbrev Kz:Stmt:=top 23
theorem Wi:FnScope ["flags","squares","flag"] ["flags"] (Ah Kz):=by walk_at "s"
theorem Wq (Dn:Dfn K mg "all_under" Kz f fd) (T:Txt mg) (C_squares_under:Cal P w K mg base "squares_under" ["flag"] 1 Dm):Cal P w K mg base "all_under" ["flags"] 2 J0 :=
 ⟨f,fd,Dn.mg,Dn.fn.kp,Dn.fn.binds (by walk_at "b"),Cm Dn.fn Wi λ cdv A outer s H E hr gd G hx =>
  Af (Jl 1 (Em (Ag)) gd.nd)
  (Af (J2 gd (Dv (Ac 0)) (Br gd 2) (λ _ e1=>Ai (Aqp 1 (Az (ps:=["flag"]) (by exact C_squares_under) (K4 e1 hx) (by exact hr) (by decide) (by rfl) (Aa (Ac 2) (Ag))))))
  (Ai (Ax (SN.sf (Uh gd  (by rfl) T.g_sorted (Ae 1))))))⟩
abbrev Ku:Stmt:=top 24
theorem Vq:FnScope ["floor","flags","flag"] ["floor","flags"] (Ah Ku):=by walk_at "s"
theorem Vy (Dn:Dfn K mg "is_laying" Ku f fd) (T:Txt mg) (C_check_floor:CalE P w K mg base "check_floor" ["floor"] 2 Aq) (C_are_in_order:Cal P w K mg base "are_in_order" ["flags"] 1 G9) (C_all_under:Cal P w K mg base "all_under" ["flags"] 2 J0):CalE P w K mg base "is_laying" ["floor","flags"] 3 Dc :=
 ⟨f,fd,Dn.mg,Dn.fn.kp,Dn.fn.binds (by walk_at "b"),Dl Dn.fn Vq λ cdv A outer s H E hr gd G lk =>
  Af (Bb (SF.se (Ay (ps:=["floor"]) (by exact C_check_floor) lk (by exact hr) (by decide) (by rfl) λ G hx=>(Aa (Ac 0) (Ag)))))
  (Af (Cj λ G hx=>(Bx (Vj (Gq (SF.se (Aav gd  (by rfl) T.g_all (SN.se (Dj gd hx (Dv (Ac 1)) (⟨Il rfl (by decide +kernel) (by decide +kernel) (by walk_at "c"),Fe (N:=["floor","flags","flag"]) (by decide +kernel),Hr _ ,λ _ _ _ _=>Br (Du gd) 2,λ _ _ _ _ _ e1=>Ig,λ _ _ _ _ _ e1=>Aqd (Du gd) (SF.se (Bs (Ae 2) (SF.se (Ad)))) (SF.se (Bh (Aa (Ad) (Aa (Ad) (Ag)))))⟩))))))) (Ai (Ax (Rg))) (Bf)))
  (Ai (Cj λ G hx=>(Ax (Ai7 (Az (ps:=["flags"]) (by exact C_are_in_order) hx (by exact hr) (by decide) (by rfl) (Aa (Ac 1) (Ag))) (Aiy (Abt gd (SF.se (Az (ps:=["flags"]) (by exact C_all_under) hx (by exact hr) (by decide) (by rfl) (Aa (Ac 1) (Ag)))) (Ae 0))))))))⟩
abbrev Hw:Stmt:=top 25
theorem Py:FnScope ["floor","flags"] ["floor","flags"] (Ah Hw):=by walk_at "s"
theorem Oe (Dn:Dfn K mg "check_laying" Hw f fd) (T:Txt mg) (XT:Exs K mg cFloorError cNoFloor cNoLaying cNoNumber cNoTurn cNotPlain cNoNote) (C_is_laying:CalE P w K mg base "is_laying" ["floor","flags"] 3 Dc):CalE P w K mg base "check_laying" ["floor","flags"] 4 Ao :=
 ⟨f,fd,Dn.mg,Dn.fn.kp,Dn.fn.binds (by walk_at "b"),Dl Dn.fn Py λ cdv A outer s H E hr gd G lk =>
  Ai (Bx (Vj (Gq (SF.se (Ay (ps:=["floor","flags"]) (by exact C_is_laying) lk (by exact hr) (by decide) (by rfl) λ G hx=>(Aa (Ac 0) (Aa (Ac 1) (Ag))))))) (Ai (Li 1 PySem.F.excBase_ValueError lk rfl rfl (by rfl) XT.m_NoLaying XT.x_NoLaying)) (Bf))⟩
abbrev Oq:Stmt:=top 26
theorem Acn:FnScope ["floor","parity","square"] ["floor","parity"] (Ah Oq):=by walk_at "s"
theorem Abn (Dn:Dfn K mg "half_of" Oq f fd) (T:Txt mg) :Cal P w K mg base "half_of" ["floor","parity"] 1 Kd :=
 ⟨f,fd,Dn.mg,Dn.fn.kp,Dn.fn.binds (by walk_at "b"),Cm Dn.fn Acn λ cdv A outer s H E hr gd G hx =>
  Ai (Ax (SN.sf (Dj gd hx (Dv (Ac 0)) (⟨Il rfl (by decide +kernel) (by decide +kernel) (by walk_at "c"),Fe (N:=["floor","parity","square"]) (by decide +kernel),Hr _ ,λ _ _ _ _=>Br (Du gd) 2,λ _ _ _ _ _ e1=>Rx (Dt (Du gd) (SF.se (Ej (SF.se (Bj (SF.se (Bs (Ae 2) (SF.se (Ad)))) (SF.se (Bs (Ae 2) (SF.se (Ad)))))) (SF.se (Ad)))) (Ae 1)),λ _ _ _ _ _ e1=>Ac 2⟩))))⟩
abbrev Ir:Stmt:=top 27
theorem Rk:FnScope ["floor","even","odd"] ["floor"] (Ah Ir):=by walk_at "s"
theorem Rc (Dn:Dfn K mg "larger_half" Ir f fd) (T:Txt mg) (C_half_of:Cal P w K mg base "half_of" ["floor","parity"] 1 Kd):Cal P w K mg base "larger_half" ["floor"] 2 Hv :=
 ⟨f,fd,Dn.mg,Dn.fn.kp,Dn.fn.binds (by walk_at "b"),Cm Dn.fn Rk λ cdv A outer s H E hr gd G hx =>
  Af (Ba 1 (Az (ps:=["floor","parity"]) (by exact C_half_of) hx (by exact hr) (by decide) (by rfl) (Aa (Ac 0) (Aa (Ad) (Ag)))) gd.nd)
  (Af (Ba 2 (Az (ps:=["floor","parity"]) (by exact C_half_of) hx (by exact hr) (by decide) (by rfl) (Aa (Ac 0) (Aa (Ad) (Ag)))) gd.nd)
  (Ai (Ax (Agv (At5 gd (SF.se (Ov  (by rfl) T.g_len (Ae 1))) (SF.se (Ov  (by rfl) T.g_len (Ae 2)))) (Ac 1) (Ac 2)))))⟩
abbrev Ey:Stmt:=top 28
theorem Nr:FnScope ["square","squares","holders","tried","near"] ["square","squares","holders","tried"] (Ah Ey):=by walk_at "s"
theorem Np {f:Addr}{fd:FuncData}{kr:Nat}{rec:List D->Kvs->Kvs->R (D × Kvs × Kvs)}(Dn:Dfn K mg "finds_partner" Ey f fd) (T:Txt mg) (C_neighbours:Cal P w K mg base "neighbours" ["square","squares"] 1 Fq) (hkr:1<=kr) (C_rec:CalQ P w K mg base "finds_partner" ["square","squares","holders","tried"] kr rec):CalQ P w K mg base "finds_partner" ["square","squares","holders","tried"] (kr+1) (Ato 5 (Jo rec)) :=
 ⟨f,fd,Dn.mg,Dn.fn.kp,Dn.fn.binds (by walk_at "b"),Aod (i:=2) Dn.fn Nr rfl λ cdv A outer s H E hr gd G a b hx =>
  Sy (Ame gd (Dv (Az (x:="neighbours") (ps:=["square","squares"]) (k:=1) (j:=kr) (dn:=Fq) (by exact C_neighbours) hx (by exact hr) (by omega) (by rfl) (Aa (Ac 0) (Aa (Ac 1) (Ag))))) (Br gd 4) (λ _ e1=>Sw (Apz (Lx gd (Ae 4) (Ae 3)) (Sy (Aag 3 (hu1 gd) (Ae 4) (Rg))
  (Sw (Ak4 (An2 (Lx gd (Ae 4) (Ae 2)) (Zy (x:="finds_partner") (ps:=["square","squares","holders","tried"]) (k:=kr) (kk:=kr) (dn:=rec) (by exact C_rec) (K4 e1 hx) (by exact hr) (Nat.le_refl _) (by rfl) (Ob (Ag7 gd (Ae 2) (Ae 4)) (Ob (Ac 1) (Aae 2 3))))) (Sy (Aag 2 (hu1 gd) (Ae 4) (Ac 0))
  (Sw (Adi (Rg)))) (Ad5)))) (Ad5))))
  (Sw (Adi (Rg)))⟩
theorem Ni (Dn:Dfn K mg "finds_partner" Ey f fd) (T:Txt mg) (C_neighbours:Cal P w K mg base "neighbours" ["square","squares"] 1 Fq):CalQ P w K mg base "finds_partner" ["square","squares","holders","tried"] 35 Ep :=
  (show ∀ n:Nat,CalQ P w K mg base "finds_partner" ["square","squares","holders","tried"] (n+1) (Gh n) from λ n=>by
    induction n with
    | zero=>exact Am1 Dn (Dn.fn.binds (by walk_at "b"))
    | succ n ih=>rw [show n+1+1=n+1+1 by omega];exact Np Dn T C_neighbours (by omega) ih) 34
abbrev Kq:Stmt:=top 29
theorem Vn:FnScope ["square","holders","tried","near"] ["square","holders","tried"] (Ah Kq):=by walk_at "s"
theorem Vg (Dn:Dfn K mg "wall_from" Kq f fd) (T:Txt mg) :Cal P w K mg base "wall_from" ["square","holders","tried"] 1 J8 :=
 ⟨f,fd,Dn.mg,Dn.fn.kp,Dn.fn.binds (by walk_at "b"),Cm Dn.fn Vn λ cdv A outer s H E hr gd G hx =>
  Ai (Ax (SN.sf (Uh gd  (by rfl) T.g_sorted (SF.se (Bj (SN.se (Em (Aa (Ac 0) (Ag)))) (SN.se (Dj gd hx (Ae7 (Ac 2)) (⟨Il rfl (by decide +kernel) (by decide +kernel) (by walk_at "c"),Fe (N:=["square","holders","tried","near"]) (by decide +kernel),Hr _ ,λ _ _ _ _=>Br (Du gd) 3,λ _ _ _ _ _ e1=>Ig,λ _ _ _ _ _ e1=>Ag7 (Du gd) (Ae 1) (Ae 3)⟩))))))))⟩
abbrev Ko:Stmt:=top 30
theorem Wf:FnScope ["one","other","first"] ["one","other"] (Ah Ko):=by walk_at "s"
theorem W7 (Dn:Dfn K mg "flag_over" Ko f fd) (T:Txt mg) :Cal P w K mg base "flag_over" ["one","other"] 1 Jt :=
 ⟨f,fd,Dn.mg,Dn.fn.kp,Dn.fn.binds (by walk_at "b"),Cm Dn.fn Wf λ cdv A outer s H E hr gd G hx =>
  Af (Ba 2 (Ak9 gd  (by rfl) T.g_min (Ae 0) (Ae 1)) gd.nd)
  (Ai (Ax (Bh (Aa (Bs (Ae 2) (SF.se (Ad))) (Aa (Bs (Ae 2) (SF.se (Ad))) (Aa (Agv (Dt gd (SF.se (Bs (Ae 0) (SF.se (Ad)))) (SF.se (Bs (Ae 1) (SF.se (Ad))))) (Ad) (Ad)) (Ag)))))))⟩
abbrev Aj4:Stmt:=top 31
theorem Anv:FnScope ["floor","squares","holders","square","tried","near"] ["floor"] (Ah Aj4):=by walk_at "s"
theorem Ao4 (Dn:Dfn K mg "lay" Aj4 f fd) (T:Txt mg) (C_check_floor:CalE P w K mg base "check_floor" ["floor"] 2 Aq) (C_marked:Cal P w K mg base "marked" ["floor"] 1 Fg) (C_larger_half:Cal P w K mg base "larger_half" ["floor"] 2 Hv) (C_finds_partner:CalQ P w K mg base "finds_partner" ["square","squares","holders","tried"] 35 Ep) (C_wall_from:Cal P w K mg base "wall_from" ["square","holders","tried"] 1 J8) (C_flag_over:Cal P w K mg base "flag_over" ["one","other"] 1 Jt):CalE P w K mg base "lay" ["floor"] 36 Vk :=
 ⟨f,fd,Dn.mg,Dn.fn.kp,Dn.fn.binds (by walk_at "b"),Dl Dn.fn Anv λ cdv A outer s H E hr gd G lk =>
  Af (Bb (SF.se (Ay (ps:=["floor"]) (by exact C_check_floor) lk (by exact hr) (by decide) (by rfl) λ G hx=>(Aa (Ac 0) (Ag)))))
  (Af (Cj λ G hx=>(Ba 1 (Az (ps:=["floor"]) (by exact C_marked) hx (by exact hr) (by decide) (by rfl) (Aa (Ac 0) (Ag))) gd.nd))
  (Af (Cj λ G hx=>(Jl 2 (Z7) gd.nd))
  (Af (Cj λ G hx=>(J2 gd (Dv (Az (ps:=["floor"]) (by exact C_larger_half) hx (by exact hr) (by decide) (by rfl) (Aa (Ac 0) (Ag)))) (Br gd 3) (λ _ e1=>Af (Jl 4 (Z7) gd.nd)
  (Ai (Anz (Alb (Zy (x:="finds_partner") (ps:=["square","squares","holders","tried"]) (k:=35) (kk:=35) (dn:=Ep) (by exact C_finds_partner) (K4 e1 hx) (by exact hr) (by decide) (by rfl) (Ob (Ac 3) (Ob (Ac 1) (Aae 2 4))))) (Ai (Pq 4 (Pq 2 (Ax (Bh (Aa (Ajr) (Aa (Az (ps:=["square","holders","tried"]) (by exact C_wall_from) (K4 e1 hx) (by exact hr) (by decide) (by rfl) (Aa (Ac 3) (Aa (Ac 2) (Aa (Ac 4) (Ag))))) (Ag)))))))) (Bf))))))
  (Ai (Cj λ G hx=>(Pq 2 (Ax (Bh (Aa (Ajr) (Aa (SN.sf (Uh gd  (by rfl) T.g_sorted (SN.se (Dj gd hx (N8 gd (Ac 2)) (⟨Il rfl (by decide +kernel) (by decide +kernel) (by walk_at "c"),Fe (N:=["floor","squares","holders","square","tried","near"]) (by decide +kernel),Vm _ _,λ _ _ _ _=>Ox (Du gd) 5 3,λ _ _ _ _ _ e2=>Ig,λ _ _ _ _ _ e2=>Az (ps:=["one","other"]) (by exact C_flag_over) (K4 e2 hx) (by exact hr) (by decide) (by rfl) (Aa (Ac 5) (Aa (Ac 3) (Ag)))⟩))))) (Ag)))))))))))⟩
abbrev O5:Stmt:=top 33
theorem Abu:FnScope ["corner","way","row","column"] ["corner","way"] (Ah O5):=by walk_at "s"
theorem Ab8 (Dn:Dfn K mg "pair_at" O5 f fd) (T:Txt mg) :Cal P w K mg base "pair_at" ["corner","way"] 1 Gz :=
 ⟨f,fd,Dn.mg,Dn.fn.kp,Dn.fn.binds (by walk_at "b"),Cm Dn.fn Abu λ cdv A outer s H E hr gd G hx =>
  Af (Ba 2 (Bs (Ae 0) (SF.se (Ad))) gd.nd)
  (Af (Ba 3 (Bs (Ae 0) (SF.se (Ad))) gd.nd)
  (Af (Bx (Dt gd (Ae 1) (SF.se (Ad))) (Ai (Ax (SN.sf (Em (Aa (Bh (Aa (Dq (Ae 2) (SF.se (Ad))) (Aa (Dq (Ae 3) (SF.se (Ad))) (Aa (Ad) (Ag))))) (Aa (Bh (Aa (Ac 2) (Aa (Dq (Ae 3) (SF.se (Ad))) (Aa (Ad) (Ag))))) (Ag))))))) (Bf))
  (Ai (Ax (SN.sf (Em (Aa (Bh (Aa (Dq (Ae 2) (SF.se (Ad))) (Aa (Dq (Ae 3) (SF.se (Ad))) (Aa (Ad) (Ag))))) (Aa (Bh (Aa (Dq (Ae 2) (SF.se (Ad))) (Aa (Ac 3) (Aa (Ad) (Ag))))) (Ag)))))))))⟩
abbrev Mg:Stmt:=top 34
theorem Y4:FnScope ["flags","corner","way","flag"] ["flags","corner","way"] (Ah Mg):=by walk_at "s"
theorem Ys (Dn:Dfn K mg "has_pair" Mg f fd) (T:Txt mg) (C_pair_at:Cal P w K mg base "pair_at" ["corner","way"] 1 Gz):Cal P w K mg base "has_pair" ["flags","corner","way"] 2 Gf :=
 ⟨f,fd,Dn.mg,Dn.fn.kp,Dn.fn.binds (by walk_at "b"),Cm Dn.fn Y4 λ cdv A outer s H E hr gd G hx =>
  Ai (Ax (Aav gd  (by rfl) T.g_all (SN.se (Dj gd hx (Dv (Az (ps:=["corner","way"]) (by exact C_pair_at) hx (by exact hr) (by decide) (by rfl) (Aa (Ac 1) (Aa (Ac 2) (Ag))))) (⟨Il rfl (by decide +kernel) (by decide +kernel) (by walk_at "c"),Fe (N:=["flags","corner","way","flag"]) (by decide +kernel),Hr _ ,λ _ _ _ _=>Br (Du gd) 3,λ _ _ _ _ _ e1=>Ig,λ _ _ _ _ _ e1=>Aqd (Du gd) (Ae 3) (Ae 0)⟩)))))⟩
abbrev X8:Stmt:=top 35
theorem Ago:FnScope ["flags","corner","rising_way"] ["flags","corner"] (Ah X8):=by walk_at "s"
theorem Ag0 (Dn:Dfn K mg "slope" X8 f fd) (T:Txt mg) (C_has_pair:Cal P w K mg base "has_pair" ["flags","corner","way"] 2 Gf):Cal P w K mg base "slope" ["flags","corner"] 3 Ez :=
 ⟨f,fd,Dn.mg,Dn.fn.kp,Dn.fn.binds (by walk_at "b"),Cm Dn.fn Ago λ cdv A outer s H E hr gd G hx =>
  Af (Ba 2 (Dq (SF.se (Ad)) (SF.se (Ej (SF.se (Bj (SF.se (Bs (Ae 1) (SF.se (Ad)))) (SF.se (Bs (Ae 1) (SF.se (Ad)))))) (SF.se (Ad))))) gd.nd)
  (Af (Bx (Gq (SF.se (Az (ps:=["flags","corner","way"]) (by exact C_has_pair) hx (by exact hr) (by decide) (by rfl) (Aa (Ac 0) (Aa (Ac 1) (Aa (Ac 2) (Ag))))))) (Ai (Ax (Ad))) (Bf))
  (Af (Bx (Gq (SF.se (Az (ps:=["flags","corner","way"]) (by exact C_has_pair) hx (by exact hr) (by decide) (by rfl) (Aa (Ac 0) (Aa (Ac 1) (Aa (Dq (SF.se (Ad)) (Ae 2)) (Ag))))))) (Ai (Ax (J1 (SF.se (Ad))))) (Bf))
  (Ai (Ax (Ad)))))⟩
abbrev K1:Stmt:=top 36
theorem V8:FnScope ["flags","corner","way","pair","flag"] ["flags","corner"] (Ah K1):=by walk_at "s"
theorem Vo (Dn:Dfn K mg "turned_at" K1 f fd) (T:Txt mg) (C_has_pair:Cal P w K mg base "has_pair" ["flags","corner","way"] 2 Gf) (C_pair_at:Cal P w K mg base "pair_at" ["corner","way"] 1 Gz):Cal P w K mg base "turned_at" ["flags","corner"] 3 Eh :=
 ⟨f,fd,Dn.mg,Dn.fn.kp,Dn.fn.binds (by walk_at "b"),Cm Dn.fn V8 λ cdv A outer s H E hr gd G hx =>
  Af (Ba 2 (Agv (Gq (SF.se (Az (ps:=["flags","corner","way"]) (by exact C_has_pair) hx (by exact hr) (by decide) (by rfl) (Aa (Ac 0) (Aa (Ac 1) (Aa (Ad) (Ag))))))) (Ad) (Ad)) gd.nd)
  (Af (Ba 3 (Az (ps:=["corner","way"]) (by exact C_pair_at) hx (by exact hr) (by decide) (by rfl) (Aa (Ac 1) (Aa (Ac 2) (Ag)))) gd.nd)
  (Ai (Ax (SN.sf (Uh gd  (by rfl) T.g_sorted (SF.se (Bj (SN.se (Dj gd hx (Dv (Ac 0)) (⟨Il rfl (by decide +kernel) (by decide +kernel) (by walk_at "c"),Fe (N:=["flags","corner","way","pair","flag"]) (by decide +kernel),Hr _ ,λ _ _ _ _=>Br (Du gd) 4,λ _ _ _ _ _ e1=>Rx (Ah5 (Du gd) (Ae 4) (Ae 3)),λ _ _ _ _ _ e1=>Ac 4⟩))) (SF.se (Az (ps:=["corner","way"]) (by exact C_pair_at) hx (by exact hr) (by decide) (by rfl) (Aa (Ac 1) (Aa (Dq (SF.se (Ad)) (Ae 2)) (Ag))))))))))))⟩
abbrev Jw:Stmt:=top 37
theorem T5:FnScope ["flags","corner"] ["flags","corner"] (Ah Jw):=by walk_at "s"
theorem Tq (Dn:Dfn K mg "check_turn" Jw f fd) (T:Txt mg) (XT:Exs K mg cFloorError cNoFloor cNoLaying cNoNumber cNoTurn cNotPlain cNoNote) (C_slope:Cal P w K mg base "slope" ["flags","corner"] 3 Ez):CalE P w K mg base "check_turn" ["flags","corner"] 4 Fv :=
 ⟨f,fd,Dn.mg,Dn.fn.kp,Dn.fn.binds (by walk_at "b"),Dl Dn.fn T5 λ cdv A outer s H E hr gd G lk =>
  Ai (Bx (Cv λ G hx=>(Dt gd (SF.se (Az (ps:=["flags","corner"]) (by exact C_slope) hx (by exact hr) (by decide) (by rfl) (Aa (Ac 0) (Aa (Ac 1) (Ag))))) (SF.se (Ad)))) (Ai (Li 3 PySem.F.excBase_ValueError lk rfl rfl (by rfl) XT.m_NoTurn XT.x_NoTurn)) (Bf))⟩
abbrev Qn:Stmt:=top 38
theorem Abf:FnScope ["floor","flags","corner"] ["floor","flags"] (Ah Qn):=by walk_at "s"
theorem Aa4 (Dn:Dfn K mg "corners" Qn f fd) (T:Txt mg) (C_check_laying:CalE P w K mg base "check_laying" ["floor","flags"] 4 Ao) (C_inner:CalE P w K mg base "inner" ["floor"] 3 Fd) (C_slope:Cal P w K mg base "slope" ["flags","corner"] 3 Ez):CalE P w K mg base "corners" ["floor","flags"] 5 Ih :=
 ⟨f,fd,Dn.mg,Dn.fn.kp,Dn.fn.binds (by walk_at "b"),Dl Dn.fn Abf λ cdv A outer s H E hr gd G lk =>
  Af (Bb (SF.se (Ay (ps:=["floor","flags"]) (by exact C_check_laying) lk (by exact hr) (by decide) (by rfl) λ G hx=>(Aa (Ac 0) (Aa (Ac 1) (Ag))))))
  (Ai (Cj λ G hx=>(Ax (SN.sf (Dj gd hx (Dv (Az (ps:=["floor"]) (by exact C_inner.cal) hx (by exact hr) (by decide) (by rfl) (Aa (Ac 0) (Ag)))) (⟨Il rfl (by decide +kernel) (by decide +kernel) (by walk_at "c"),Fe (N:=["floor","flags","corner"]) (by decide +kernel),Hr _ ,λ _ _ _ _=>Br (Du gd) 2,λ _ _ _ _ _ e1=>Rx (Aos (Du gd) (SF.se (Az (ps:=["flags","corner"]) (by exact C_slope) (K4 e1 hx) (by exact hr) (by decide) (by rfl) (Aa (Ac 1) (Aa (Ac 2) (Ag))))) (SF.se (Ad))),λ _ _ _ _ _ e1=>Ac 2⟩))))))⟩
abbrev T3:Stmt:=top 39
theorem Acv:FnScope ["floor","flags","corner"] ["floor","flags","corner"] (Ah T3):=by walk_at "s"
theorem Ada (Dn:Dfn K mg "turned" T3 f fd) (T:Txt mg) (C_check_laying:CalE P w K mg base "check_laying" ["floor","flags"] 4 Ao) (C_check_turn:CalE P w K mg base "check_turn" ["flags","corner"] 4 Fv) (C_turned_at:Cal P w K mg base "turned_at" ["flags","corner"] 3 Eh):CalE P w K mg base "turned" ["floor","flags","corner"] 5 Jp :=
 ⟨f,fd,Dn.mg,Dn.fn.kp,Dn.fn.binds (by walk_at "b"),Dl Dn.fn Acv λ cdv A outer s H E hr gd G lk =>
  Af (Bb (SF.se (Ay (ps:=["floor","flags"]) (by exact C_check_laying) lk (by exact hr) (by decide) (by rfl) λ G hx=>(Aa (Ac 0) (Aa (Ac 1) (Ag))))))
  (Af (Bb (SF.se (Ay (ps:=["flags","corner"]) (by exact C_check_turn) lk (by exact hr) (by decide) (by rfl) λ G hx=>(Aa (Ac 1) (Aa (Ac 2) (Ag))))))
  (Ai (Cj λ G hx=>(Ax (Az (ps:=["flags","corner"]) (by exact C_turned_at) hx (by exact hr) (by decide) (by rfl) (Aa (Ac 1) (Aa (Ac 2) (Ag))))))))⟩
abbrev Y0:Stmt:=top 40
theorem Ahd:FnScope ["floor","flags","corner"] ["floor","flags","corner"] (Ah Y0):=by walk_at "s"
theorem Ah4 (Dn:Dfn K mg "rises" Y0 f fd) (T:Txt mg) (C_check_laying:CalE P w K mg base "check_laying" ["floor","flags"] 4 Ao) (C_check_turn:CalE P w K mg base "check_turn" ["flags","corner"] 4 Fv) (C_slope:Cal P w K mg base "slope" ["flags","corner"] 3 Ez):CalE P w K mg base "rises" ["floor","flags","corner"] 5 Lg :=
 ⟨f,fd,Dn.mg,Dn.fn.kp,Dn.fn.binds (by walk_at "b"),Dl Dn.fn Ahd λ cdv A outer s H E hr gd G lk =>
  Af (Bb (SF.se (Ay (ps:=["floor","flags"]) (by exact C_check_laying) lk (by exact hr) (by decide) (by rfl) λ G hx=>(Aa (Ac 0) (Aa (Ac 1) (Ag))))))
  (Af (Bb (SF.se (Ay (ps:=["flags","corner"]) (by exact C_check_turn) lk (by exact hr) (by decide) (by rfl) λ G hx=>(Aa (Ac 1) (Aa (Ac 2) (Ag))))))
  (Ai (Cj λ G hx=>(Ax (Abt gd (SF.se (Az (ps:=["flags","corner"]) (by exact C_slope) hx (by exact hr) (by decide) (by rfl) (Aa (Ac 1) (Aa (Ac 2) (Ag))))) (SF.se (Ad)))))))⟩
abbrev Im:Stmt:=top 42
theorem Rj:FnScope ["floor"] ["floor"] (Ah Im):=by walk_at "s"
theorem Ri (Dn:Dfn K mg "check_plain" Im f fd) (T:Txt mg) (XT:Exs K mg cFloorError cNoFloor cNoLaying cNoNumber cNoTurn cNotPlain cNoNote) (C_is_plain:CalE P w K mg base "is_plain" ["floor"] 3 Bv):CalE P w K mg base "check_plain" ["floor"] 4 Cq :=
 ⟨f,fd,Dn.mg,Dn.fn.kp,Dn.fn.binds (by walk_at "b"),Dl Dn.fn Rj λ cdv A outer s H E hr gd G lk =>
  Ai (Bx (Vj (Gq (SF.se (Ay (ps:=["floor"]) (by exact C_is_plain) lk (by exact hr) (by decide) (by rfl) λ G hx=>(Aa (Ac 0) (Ag)))))) (Ai (Li 2 PySem.F.excBase_ValueError lk rfl rfl (by rfl) XT.m_NotPlain XT.x_NotPlain)) (Bf))⟩
abbrev Ks:Stmt:=top 43
theorem W3:FnScope ["floor","flags"] ["floor","flags"] (Ah Ks):=by walk_at "s"
theorem Vp (Dn:Dfn K mg "check_one" Ks f fd) (T:Txt mg) (C_check_plain:CalE P w K mg base "check_plain" ["floor"] 4 Cq) (C_check_laying:CalE P w K mg base "check_laying" ["floor","flags"] 4 Ao):CalE P w K mg base "check_one" ["floor","flags"] 5 Eb :=
 ⟨f,fd,Dn.mg,Dn.fn.kp,Dn.fn.binds (by walk_at "b"),Dl Dn.fn W3 λ cdv A outer s H E hr gd G lk =>
  Af (Bb (SF.se (Ay (ps:=["floor"]) (by exact C_check_plain) lk (by exact hr) (by decide) (by rfl) λ G hx=>(Aa (Ac 0) (Ag)))))
  (Ai (Bb (SF.se (Ay (ps:=["floor","flags"]) (by exact C_check_laying) lk (by exact hr) (by decide) (by rfl) λ G hx=>(Aa (Ac 0) (Aa (Ac 1) (Ag)))))))⟩
abbrev Jv:Stmt:=top 44
theorem T6:FnScope ["floor","ones","others"] ["floor","ones","others"] (Ah Jv):=by walk_at "s"
theorem Td (Dn:Dfn K mg "check_both" Jv f fd) (T:Txt mg) (C_check_plain:CalE P w K mg base "check_plain" ["floor"] 4 Cq) (C_check_laying:CalE P w K mg base "check_laying" ["floor","flags"] 4 Ao):CalE P w K mg base "check_both" ["floor","ones","others"] 5 Bm :=
 ⟨f,fd,Dn.mg,Dn.fn.kp,Dn.fn.binds (by walk_at "b"),Dl Dn.fn T6 λ cdv A outer s H E hr gd G lk =>
  Af (Bb (SF.se (Ay (ps:=["floor"]) (by exact C_check_plain) lk (by exact hr) (by decide) (by rfl) λ G hx=>(Aa (Ac 0) (Ag)))))
  (Af (Bb (SF.se (Ay (ps:=["floor","flags"]) (by exact C_check_laying) lk (by exact hr) (by decide) (by rfl) λ G hx=>(Aa (Ac 0) (Aa (Ac 1) (Ag))))))
  (Ai (Bb (SF.se (Ay (ps:=["floor","flags"]) (by exact C_check_laying) lk (by exact hr) (by decide) (by rfl) λ G hx=>(Aa (Ac 0) (Aa (Ac 2) (Ag))))))))⟩
abbrev Mz:Stmt:=top 45
theorem Yq:FnScope ["corner","ones","others","flag","step"] ["corner","ones","others"] (Ah Mz):=by walk_at "s"
theorem Yx (Dn:Dfn K mg "gap_step" Mz f fd) (T:Txt mg) :Cal P w K mg base "gap_step" ["corner","ones","others"] 1 Ky :=
 ⟨f,fd,Dn.mg,Dn.fn.kp,Dn.fn.binds (by walk_at "b"),Cm Dn.fn Yq λ cdv A outer s H E hr gd G hx =>
  Af (Ba 3 (Bh (Aa (Dq (SF.se (Bs (Ae 0) (SF.se (Ad)))) (SF.se (Ad))) (Aa (Dq (SF.se (Bs (Ae 0) (SF.se (Ad)))) (SF.se (Ad))) (Aa (Ad) (Ag))))) gd.nd)
  (Af (Ba 4 (Ad) gd.nd)
  (Af (Bx (Anf gd (Ae 3) (Ae 1)) (Ai (Ba 4 (Bj (Ae 4) (SF.se (Ad))) gd.nd)) (Bf))
  (Af (Bx (Anf gd (Ae 3) (Ae 2)) (Ai (Ba 4 (Dq (Ae 4) (SF.se (Ad))) gd.nd)) (Bf))
  (Ai (Ax (Agv (Dt gd (SF.se (Ej (SF.se (Bj (SF.se (Bs (Ae 0) (SF.se (Ad)))) (SF.se (Bs (Ae 0) (SF.se (Ad)))))) (SF.se (Ad)))) (SF.se (Ad))) (Ac 4) (J1 (Ae 4))))))))⟩
abbrev G3:Stmt:=top 46
theorem Nx:FnScope ["floor","ones","others","found","corner","left"] ["floor","ones","others"] (Ah G3):=by walk_at "s"
theorem Nt (Dn:Dfn K mg "gap_by_corner" G3 f fd) (T:Txt mg) (C_inner:CalE P w K mg base "inner" ["floor"] 3 Fd) (C_gap_step:Cal P w K mg base "gap_step" ["corner","ones","others"] 1 Ky):Cal P w K mg base "gap_by_corner" ["floor","ones","others"] 4 Bk :=
 ⟨f,fd,Dn.mg,Dn.fn.kp,Dn.fn.binds (by walk_at "b"),Cm Dn.fn Nx λ cdv A outer s H E hr gd G hx =>
  Af (Jl 3 (Z7) gd.nd)
  (Af (J2 gd (Dv (Az (ps:=["floor"]) (by exact C_inner.cal) hx (by exact hr) (by decide) (by rfl) (Aa (Ac 0) (Ag)))) (Br gd 4) (λ _ e1=>Af (Ba 5 (Zt gd (Ae 3) (SF.se (Bh (Aa (Bs (Ae 4) (SF.se (Ad))) (Aa (Dq (SF.se (Bs (Ae 4) (SF.se (Ad)))) (SF.se (Ad))) (Ag))))) (Ad)) gd.nd)
  (Ai (S9 3 (hu1 gd) (Ae 4) (Bj (Ae 5) (SF.se (Az (ps:=["corner","ones","others"]) (by exact C_gap_step) (K4 e1 hx) (by exact hr) (by decide) (by rfl) (Aa (Ac 4) (Aa (Ac 1) (Aa (Ac 2) (Ag)))))))))))
  (Ai (Pq 3 (Ax (Ac 3)))))⟩
abbrev Alp:Stmt:=top 47
theorem Ap4:FnScope ["flags","wanted","laid","left","made","gap","corner","direction"] ["flags","wanted"] (Ah Alp):=by walk_at "s"
theorem Aqj (Dn:Dfn K mg "led" Alp f fd) (T:Txt mg) (C_slope:Cal P w K mg base "slope" ["flags","corner"] 3 Ez) (C_turned_at:Cal P w K mg base "turned_at" ["flags","corner"] 3 Eh):Cal P w K mg base "led" ["flags","wanted"] 4 O1 :=
 ⟨f,fd,Dn.mg,Dn.fn.kp,Dn.fn.binds (by walk_at "b"),Cm Dn.fn Ap4 λ cdv A outer s H E hr gd G hx =>
  Af (Ba 2 (SN.sf (Tn  (by rfl) T.g_list (Ae 0))) gd.nd)
  (Af (Jl 3 (Ahq gd  (by rfl) T.g_dict (Ae 1)) gd.nd)
  (Af (Jl 4 (Em (Ag)) gd.nd)
  (Af (Tz gd fuel (Gq (SF.se (Ah0 3 (Anr gd  (by rfl) T.g_any (SN.se (Dj gd hx (Afx gd (Ac 3)) (⟨Il rfl (by decide +kernel) (by decide +kernel) (by walk_at "c"),Fe (N:=["flags","wanted","laid","left","made","gap","corner","direction"]) (by decide +kernel),Hr _ ,λ _ _ _ _=>Br (Du gd) 5,λ _ _ _ _ _ e1=>Ig,λ _ _ _ _ _ e1=>Auc (Du gd) (Ae 5) (SF.se (Ad))⟩))))))) (Ai (J2 gd (Ae7 (Ac 1)) (Br gd 6) (λ _ e2=>Af (Ba 7 (Az (ps:=["flags","corner"]) (by exact C_slope) (K4 e2 hx) (by exact hr) (by decide) (by rfl) (Aa (Ac 2) (Aa (Ac 6) (Ag)))) gd.nd)
  (Ai (Bx (Akw gd (SF.se (Ajk (Ae 7) (SF.se (Ag7 gd (Ae 3) (Ae 6))))) (SF.se (Ad))) (Af (Ba 2 (Az (ps:=["flags","corner"]) (by exact C_turned_at) (K4 e2 hx) (by exact hr) (by decide) (by rfl) (Aa (Ac 2) (Aa (Ac 6) (Ag)))) gd.nd)
  (Af (S9 3 (hu1 gd) (Ae 6) (Dq (SF.se (Ag7 gd (Ae 3) (Ae 6))) (Ae 7)))
  (Ai (Z1 4 (Ac 6))))) (Bf)))))))
  (Ai (Pq 4 (Ax (Bh (Aa (Ac 4) (Aa (Ac 2) (Ag))))))))))⟩
abbrev Jy:Stmt:=top 48
theorem U4:FnScope ["floor","flags","direction","laid","found","corner"] ["floor","flags","direction"] (Ah Jy):=by walk_at "s"
theorem Uv (Dn:Dfn K mg "led_to_end" Jy f fd) (T:Txt mg) (C_inner:CalE P w K mg base "inner" ["floor"] 3 Fd) (C_slope:Cal P w K mg base "slope" ["flags","corner"] 3 Ez) (C_turned_at:Cal P w K mg base "turned_at" ["flags","corner"] 3 Eh):Cal P w K mg base "led_to_end" ["floor","flags","direction"] 4 Fi :=
 ⟨f,fd,Dn.mg,Dn.fn.kp,Dn.fn.binds (by walk_at "b"),Cm Dn.fn U4 λ cdv A outer s H E hr gd G hx =>
  Af (Ba 3 (SN.sf (Tn  (by rfl) T.g_list (Ae 1))) gd.nd)
  (Af (Ba 4 (Rg) gd.nd)
  (Af (Tz gd fuel (Gq (Ae 4)) (Af (Ba 4 (Rg) gd.nd)
  (Ai (J2 gd (Dv (Az (ps:=["floor"]) (by exact C_inner.cal) hx (by exact hr) (by decide) (by rfl) (Aa (Ac 0) (Ag)))) (Br gd 5) (λ _ e1=>Ai (Bx (Dt gd (SF.se (Az (ps:=["flags","corner"]) (by exact C_slope) (K4 e1 hx) (by exact hr) (by decide) (by rfl) (Aa (Ac 3) (Aa (Ac 5) (Ag))))) (Ae 2)) (Af (Ba 3 (Az (ps:=["flags","corner"]) (by exact C_turned_at) (K4 e1 hx) (by exact hr) (by decide) (by rfl) (Aa (Ac 3) (Aa (Ac 5) (Ag)))) gd.nd)
  (Ai (Ba 4 (Rg) gd.nd))) (Bf)))))))
  (Ai (Ax (Ac 3)))))⟩
abbrev Adw:Stmt:=top 49
theorem Alf:FnScope ["floor","ones","others","corner","gap"] ["floor","ones","others"] (Ah Adw):=by walk_at "s"
theorem Akn (Dn:Dfn K mg "gaps" Adw f fd) (T:Txt mg) (C_check_both:CalE P w K mg base "check_both" ["floor","ones","others"] 5 Bm) (C_gap_by_corner:Cal P w K mg base "gap_by_corner" ["floor","ones","others"] 4 Bk):CalE P w K mg base "gaps" ["floor","ones","others"] 6 O4 :=
 ⟨f,fd,Dn.mg,Dn.fn.kp,Dn.fn.binds (by walk_at "b"),Dl Dn.fn Alf λ cdv A outer s H E hr gd G lk =>
  Af (Bb (SF.se (Ay (ps:=["floor","ones","others"]) (by exact C_check_both) lk (by exact hr) (by decide) (by rfl) λ G hx=>(Aa (Ac 0) (Aa (Ac 1) (Aa (Ac 2) (Ag)))))))
  (Ai (Cj λ G hx=>(Ax (SN.sf (Dj gd hx (N8 gd (Az (ps:=["floor","ones","others"]) (by exact C_gap_by_corner) hx (by exact hr) (by decide) (by rfl) (Aa (Ac 0) (Aa (Ac 1) (Aa (Ac 2) (Ag)))))) (⟨Il rfl (by decide +kernel) (by decide +kernel) (by walk_at "c"),Fe (N:=["floor","ones","others","corner","gap"]) (by decide +kernel),Vm _ _,λ _ _ _ _=>Ox (Du gd) 3 4,λ _ _ _ _ _ e1=>Ig,λ _ _ _ _ _ e1=>Bh (Aa (Bs (Ae 3) (SF.se (Ad))) (Aa (Bs (Ae 3) (SF.se (Ad))) (Aa (Ac 4) (Ag))))⟩))))))⟩
abbrev Akx:Stmt:=top 50
theorem An3:FnScope ["floor","ones","others"] ["floor","ones","others"] (Ah Akx):=by walk_at "s"
theorem Aqg (Dn:Dfn K mg "way" Akx f fd) (T:Txt mg) (C_check_both:CalE P w K mg base "check_both" ["floor","ones","others"] 5 Bm) (C_led:Cal P w K mg base "led" ["flags","wanted"] 4 O1) (C_gap_by_corner:Cal P w K mg base "gap_by_corner" ["floor","ones","others"] 4 Bk):CalE P w K mg base "way" ["floor","ones","others"] 6 Wo :=
 ⟨f,fd,Dn.mg,Dn.fn.kp,Dn.fn.binds (by walk_at "b"),Dl Dn.fn An3 λ cdv A outer s H E hr gd G lk =>
  Af (Bb (SF.se (Ay (ps:=["floor","ones","others"]) (by exact C_check_both) lk (by exact hr) (by decide) (by rfl) λ G hx=>(Aa (Ac 0) (Aa (Ac 1) (Aa (Ac 2) (Ag)))))))
  (Ai (Cj λ G hx=>(Ax (Bs (SF.se (Az (ps:=["flags","wanted"]) (by exact C_led) hx (by exact hr) (by decide) (by rfl) (Aa (Ac 1) (Aa (Az (ps:=["floor","ones","others"]) (by exact C_gap_by_corner) hx (by exact hr) (by decide) (by rfl) (Aa (Ac 0) (Aa (Ac 1) (Aa (Ac 2) (Ag))))) (Ag))))) (SF.se (Ad))))))⟩
abbrev Xx:Stmt:=top 51
theorem Ag1:FnScope ["floor","ones","others","apart","corner","gap"] ["floor","ones","others"] (Ah Xx):=by walk_at "s"
theorem Ag4 (Dn:Dfn K mg "upper" Xx f fd) (T:Txt mg) (C_check_both:CalE P w K mg base "check_both" ["floor","ones","others"] 5 Bm) (C_gap_by_corner:Cal P w K mg base "gap_by_corner" ["floor","ones","others"] 4 Bk) (C_led:Cal P w K mg base "led" ["flags","wanted"] 4 O1):CalE P w K mg base "upper" ["floor","ones","others"] 6 Lk :=
 ⟨f,fd,Dn.mg,Dn.fn.kp,Dn.fn.binds (by walk_at "b"),Dl Dn.fn Ag1 λ cdv A outer s H E hr gd G lk =>
  Af (Bb (SF.se (Ay (ps:=["floor","ones","others"]) (by exact C_check_both) lk (by exact hr) (by decide) (by rfl) λ G hx=>(Aa (Ac 0) (Aa (Ac 1) (Aa (Ac 2) (Ag)))))))
  (Af (Cj λ G hx=>(Ba 3 (Az (ps:=["floor","ones","others"]) (by exact C_gap_by_corner) hx (by exact hr) (by decide) (by rfl) (Aa (Ac 0) (Aa (Ac 1) (Aa (Ac 2) (Ag))))) gd.nd))
  (Ai (Cj λ G hx=>(Ax (Bs (SF.se (Az (ps:=["flags","wanted"]) (by exact C_led) hx (by exact hr) (by decide) (by rfl) (Aa (Ac 1) (Aa (SN.sf (Ym gd  (by rfl) T.g_dict (SN.se (Dj gd hx (N8 gd (Ac 3)) (⟨Il rfl (by decide +kernel) (by decide +kernel) (by walk_at "c"),Fe (N:=["floor","ones","others","apart","corner","gap"]) (by decide +kernel),Vm _ _,λ _ _ _ _=>Ox (Du gd) 4 5,λ _ _ _ _ _ e1=>Ig,λ _ _ _ _ _ e1=>Bh (Aa (Ac 4) (Aa (Ac7 (Du gd)  (by rfl) T.g_max (Ae 5) (SF.se (Ad))) (Ag)))⟩))))) (Ag))))) (SF.se (Ad)))))))⟩
abbrev Ye:Stmt:=top 52
theorem Ahv:FnScope ["floor","ones","others","apart","corner","gap"] ["floor","ones","others"] (Ah Ye):=by walk_at "s"
theorem Ahr (Dn:Dfn K mg "lower" Ye f fd) (T:Txt mg) (C_check_both:CalE P w K mg base "check_both" ["floor","ones","others"] 5 Bm) (C_gap_by_corner:Cal P w K mg base "gap_by_corner" ["floor","ones","others"] 4 Bk) (C_led:Cal P w K mg base "led" ["flags","wanted"] 4 O1):CalE P w K mg base "lower" ["floor","ones","others"] 6 La :=
 ⟨f,fd,Dn.mg,Dn.fn.kp,Dn.fn.binds (by walk_at "b"),Dl Dn.fn Ahv λ cdv A outer s H E hr gd G lk =>
  Af (Bb (SF.se (Ay (ps:=["floor","ones","others"]) (by exact C_check_both) lk (by exact hr) (by decide) (by rfl) λ G hx=>(Aa (Ac 0) (Aa (Ac 1) (Aa (Ac 2) (Ag)))))))
  (Af (Cj λ G hx=>(Ba 3 (Az (ps:=["floor","ones","others"]) (by exact C_gap_by_corner) hx (by exact hr) (by decide) (by rfl) (Aa (Ac 0) (Aa (Ac 1) (Aa (Ac 2) (Ag))))) gd.nd))
  (Ai (Cj λ G hx=>(Ax (Bs (SF.se (Az (ps:=["flags","wanted"]) (by exact C_led) hx (by exact hr) (by decide) (by rfl) (Aa (Ac 1) (Aa (SN.sf (Ym gd  (by rfl) T.g_dict (SN.se (Dj gd hx (N8 gd (Ac 3)) (⟨Il rfl (by decide +kernel) (by decide +kernel) (by walk_at "c"),Fe (N:=["floor","ones","others","apart","corner","gap"]) (by decide +kernel),Vm _ _,λ _ _ _ _=>Ox (Du gd) 4 5,λ _ _ _ _ _ e1=>Ig,λ _ _ _ _ _ e1=>Bh (Aa (Ac 4) (Aa (Af2 (Du gd)  (by rfl) T.g_min (Ae 5) (SF.se (Ad))) (Ag)))⟩))))) (Ag))))) (SF.se (Ad)))))))⟩
abbrev Oo:Stmt:=top 53
theorem Ab0:FnScope ["floor","flags"] ["floor","flags"] (Ah Oo):=by walk_at "s"
theorem Aa0 (Dn:Dfn K mg "highest" Oo f fd) (T:Txt mg) (C_check_one:CalE P w K mg base "check_one" ["floor","flags"] 5 Eb) (C_led_to_end:Cal P w K mg base "led_to_end" ["floor","flags","direction"] 4 Fi):CalE P w K mg base "highest" ["floor","flags"] 6 Ib :=
 ⟨f,fd,Dn.mg,Dn.fn.kp,Dn.fn.binds (by walk_at "b"),Dl Dn.fn Ab0 λ cdv A outer s H E hr gd G lk =>
  Af (Bb (SF.se (Ay (ps:=["floor","flags"]) (by exact C_check_one) lk (by exact hr) (by decide) (by rfl) λ G hx=>(Aa (Ac 0) (Aa (Ac 1) (Ag))))))
  (Ai (Cj λ G hx=>(Ax (Az (ps:=["floor","flags","direction"]) (by exact C_led_to_end) hx (by exact hr) (by decide) (by rfl) (Aa (Ac 0) (Aa (Ac 1) (Aa (Ad) (Ag))))))))⟩
abbrev Tj:Stmt:=top 54
theorem Ad2:FnScope ["floor","flags"] ["floor","flags"] (Ah Tj):=by walk_at "s"
theorem Af8 (Dn:Dfn K mg "lowest" Tj f fd) (T:Txt mg) (C_check_one:CalE P w K mg base "check_one" ["floor","flags"] 5 Eb) (C_led_to_end:Cal P w K mg base "led_to_end" ["floor","flags","direction"] 4 Fi):CalE P w K mg base "lowest" ["floor","flags"] 6 J3 :=
 ⟨f,fd,Dn.mg,Dn.fn.kp,Dn.fn.binds (by walk_at "b"),Dl Dn.fn Ad2 λ cdv A outer s H E hr gd G lk =>
  Af (Bb (SF.se (Ay (ps:=["floor","flags"]) (by exact C_check_one) lk (by exact hr) (by decide) (by rfl) λ G hx=>(Aa (Ac 0) (Aa (Ac 1) (Ag))))))
  (Ai (Cj λ G hx=>(Ax (Az (ps:=["floor","flags","direction"]) (by exact C_led_to_end) hx (by exact hr) (by decide) (by rfl) (Aa (Ac 0) (Aa (Ac 1) (Aa (J1 (SF.se (Ad))) (Ag))))))))⟩
abbrev Qu:Stmt:=top 58
theorem Abb:FnScope ["floor","square"] ["floor"] (Ah Qu):=by walk_at "s"
theorem Abh (Dn:Dfn K mg "bits_of" Qu f fd) (T:Txt mg) :Cal P w K mg base "bits_of" ["floor"] 1 Ei :=
 ⟨f,fd,Dn.mg,Dn.fn.kp,Dn.fn.binds (by walk_at "b"),Cm Dn.fn Abb λ cdv A outer s H E hr gd G hx =>
  Ai (Ax (Aou gd  (by rfl) T.g_sum (SN.se (Dj gd hx (Dv (Ac 0)) (⟨Il rfl (by decide +kernel) (by decide +kernel) (by walk_at "c"),Fe (N:=["floor","square"]) (by decide +kernel),Hr _ ,λ _ _ _ _=>Br (Du gd) 1,λ _ _ _ _ _ e1=>Ig,λ _ _ _ _ _ e1=>Ant (SF.se (Ad)) (SF.se (Bj (SF.se (Ajk (SF.se (J4 T.g_ROWBITS (by rfl))) (SF.se (Bs (Ae 1) (SF.se (Ad)))))) (SF.se (Bs (Ae 1) (SF.se (Ad))))))⟩)))))⟩
abbrev Ado:Stmt:=top 63
theorem Ala:FnScope ["floor"] ["floor"] (Ah Ado):=by walk_at "s"
theorem Al5 (Dn:Dfn K mg "ways" Ado f fd) (T:Txt mg) (C_check_floor:CalE P w K mg base "check_floor" ["floor"] 2 Aq) (C_ways_over:CalW P w K mg base 25 12) (C_bits_of:Cal P w K mg base "bits_of" ["floor"] 1 Ei):CalE P w K mg base "ways" ["floor"] 26 Pb :=
 ⟨f,fd,Dn.mg,Dn.fn.kp,Dn.fn.binds (by walk_at "b"),Dl Dn.fn Ala λ cdv A outer s H E hr gd G lk =>
  Af (Bb (SF.se (Ay (ps:=["floor"]) (by exact C_check_floor) lk (by exact hr) (by decide) (by rfl) λ G hx=>(Aa (Ac 0) (Ag)))))
  (Ai (Cj λ G hx=>(Ax (Amk (k:=25) (j:=25) (n:=12) (by exact C_ways_over) (by decide) (by exact hr) (by decide) (by rfl) (Az (ps:=["floor"]) (by exact C_bits_of) hx (by exact hr) (by decide) (by rfl) (Aa (Ac 0) (Ag)))))))⟩
abbrev Adr:Stmt:=top 64
theorem Ia:FnScope ["floor","number","bare","known","flags","ahead","across","way"] ["floor","number"] (Ah Adr):=by walk_at "s"
theorem Aka {f fs fw fo ff:Addr}{fd fds fdw fdo fdf:FuncData}(Dn:Dfn K mg "told" Adr f fd) (T:Txt mg) (XT:Exs K mg cFloorError cNoFloor cNoLaying cNoNumber cNoTurn cNotPlain cNoNote) (C_check_floor:CalE P w K mg base "check_floor" ["floor"] 2 Aq) (C_bits_of:Cal P w K mg base "bits_of" ["floor"] 1 Ei) (Ds:Dfn K mg "span_on_first" Cd fs fds) (Dw:Dfn K mg "ways_with" Ge fw fdw) (Do:Dfn K mg "ways_over" Gj fo fdo) (Df:Dfn K mg "first_square" Gk ff fdf) (SA:∃ a,mg "SPANS"=some (.ref a)/\∀ H,SqT K H a [.int 3,.int 513]):CalE P w K mg base "told" ["floor","number"] 27 Kp:=by
 obtain⟨fc,fdc,mc,kc,bc,Fc⟩:=C_check_floor.cal.ex
 obtain⟨fb,fdb,mb,kb,bb,Fb⟩:=C_bits_of.ex
 have Fo:=Hq (P:=P) (w:=w) (base:=base) Ds Dw Do SA 12
 have Fw:=Js Ds Dw Do SA Fo
 have Fs:=Gr (P:=P) (w:=w) (base:=base) Ds SA
 have Ff:=Pu (P:=P) (w:=w) (base:=base) Df T
 refine⟨f,fd,Dn.mg,Dn.fn.kp,(Dn.fn.binds (by walk_at "b")),Aop (d1:=Ac6 (Qy Aq) Ei) ?_ (Dl (m:=Bc (xDo (Am 1 Aq (calm (Ab (vF 0) (Aw))))) Ry) Dn.fn Ia λ cdv A outer s H E hr gd G lk=>Af (Bb (SF.se (Ay (ps:=["floor"]) (by exact C_check_floor) lk (by exact hr) (by decide) (by rfl) λ G hx=>(Aa (Ac 0) (Ag))))) T8) (At3 λ f n c e=>by simp [den,Ft,Bc,xDo,Am,calm,Ab,Aw,vF,Ry,ended,e])⟩
 obtain⟨oc,od,kV,doc,pm,an,cdv,ct,osl,rfl,lk,hcd⟩:=Dn.fn.ex
 exact Ako lk hcd Ia (λ vs H Q E h=>h.1) λ A outer s H vs Q E hr h=>⟨_,
  Bg (PS.nox (Mj (Di Fc (hr.mono (by decide)) (by rfl) mc kc bc .nil Ja (Ak (pv 0) Bl))))
  (Bg (PS.nox (Er (i:=2) Ia.nd rfl (Or.inl rfl) (Di Fb (hr.mono (by decide)) (by rfl) mb kb bb .nil Ja (Ak (pv 0) Bl))))
  (Bg (PS.nox (Er (i:=3) Ia.nd rfl (Or.inl rfl) Te))
  (Bg (Lb (PT.nox (Aao (Zn Aq2 Aex Cu (pv 1) (Di Fo (hr.mono (by decide)) (by rfl) Do.mg Do.fn.kp (Do.fn.binds (by walk_at "b")) .nil Ja (Ak (pv 2) (Ak (pv 3) Bl)))))) (Ca (Ah1 4 PySem.F.excBase_ValueError (Aaj (pr:=λ _=>False)) rfl rfl (by rfl) XT.m_NoNumber XT.x_NoNumber)) Gv)
  (Bg (PS.nox (Er (i:=4) Ia.nd rfl (Or.inl rfl) (Aax Bl)))
  (Bg (PS.nox (Er (i:=5) Ia.nd rfl (Or.inl rfl) Cu))
  (Bg (PS.nox (Aal PassesOwn.never (Iz Alq (pv 2) Cu (Gm _))
   (Bg (Er (i:=6) Ia.nd rfl (Or.inl rfl) (Di Fw (hr.mono (by decide)) (by rfl) Dw.mg Dw.fn.kp (Dw.fn.binds (by walk_at "b")) .nil Ja (Ak (pv 2) (Ak Cu (Ak (pv 3) Bl)))))
   (Bg (Er (i:=7) Ia.nd rfl (Or.inl rfl) (Aau (Iz Aex (pv 1) (Jk Qp (pv 5) (pv 6)) (Gm _)) Cu Cu))
   (Bg (Lb (Iz Ail (pv 7) Cu (Gm _)) (Ca (Er (i:=5) Ia.nd rfl (Or.inl rfl) (Jk Qp (pv 5) (pv 6)))) Gv)
   (Bg (Mj (Abj PySem.F.plainAttrs_list PySem.F.slot_list_append PySem.F.type_list_append Ph (pv 4) (Ak (Jk Akr (Di Ff (hr.mono (by decide)) (by rfl) Df.mg Df.fn.kp (Df.fn.binds (by walk_at "b")) .nil Ja (Ak (pv 2) Bl)) (Aji (Ak (pv 7) Bl))) Bl)))
   (Ca (Er (i:=2) Ia.nd rfl (Or.inl rfl) (Jk W9 (pv 2) (Di Fs (hr.mono (by decide)) (by rfl) Ds.mg Ds.fn.kp (Ds.fn.binds (by walk_at "b")) .nil Ja (Ak (pv 2) (Ak (pv 7) Bl))))))))))))
  (Ca (PS.nox (G4 (pv 4)))))))))),Ab7 h⟩
abbrev Kw:Stmt:=top 65
theorem Cz:FnScope ["floor","flags","bare","known","ahead","flag"] ["floor","flags"] (Ah Kw):=by walk_at "s"
theorem Vb {f fs fw fo:Addr}{fd fds fdw fdo:FuncData}(Dn:Dfn K mg "number_of" Kw f fd) (C_check_laying:CalE P w K mg base "check_laying" ["floor","flags"] 4 Ao) (C_bits_of:Cal P w K mg base "bits_of" ["floor"] 1 Ei) (Ds:Dfn K mg "span_on_first" Cd fs fds) (Dw:Dfn K mg "ways_with" Ge fw fdw) (Do:Dfn K mg "ways_over" Gj fo fdo) (SA:∃ a,mg "SPANS"=some (.ref a)/\∀ H,SqT K H a [.int 3,.int 513]):CalE P w K mg base "number_of" ["floor","flags"] 27 Cy:=by
 obtain⟨fc,fdc,mc,kc,bc,Fc⟩:=C_check_laying.cal.ex
 obtain⟨fb,fdb,mb,kb,bb,Fb⟩:=C_bits_of.ex
 have Fo:=Hq (P:=P) (w:=w) (base:=base) Ds Dw Do SA 12
 have Fw:=Js Ds Dw Do SA Fo
 have Fs:=Gr (P:=P) (w:=w) (base:=base) Ds SA
 refine⟨f,fd,Dn.mg,Dn.fn.kp,(Dn.fn.binds (by walk_at "b")),Aop (d1:=Qy (Aob (Qy Ao) Ei)) (Asp ?_) (Dl (m:=Bc (xDo (Am 2 Ao (calm (Ab (vF 0) (Ab (vF 1) (Aw)))))) Ry) Dn.fn Cz λ cdv A outer s H E hr gd G lk=>Af (Bb (SF.se (Ay (ps:=["floor","flags"]) (by exact C_check_laying) lk (by exact hr) (by decide) (by rfl) λ G hx=>(Aa (Ac 0) (Aa (Ac 1) (Ag)))))) T8) (Auf λ f g c e=>by simp [den,Ft,Bc,xDo,Am,calm,Ab,Aw,vF,Ry,ended,e])⟩
 exact Dn.fn.ok Cz (λ vs H Q E h=>h.1) λ cdv A outer s H vs Q E hr h=>⟨_,
  Bg (Mj (Di Fc (hr.mono (by decide)) (by rfl) mc kc bc .nil Ja (Ak (pv 0) (Ak (pv 1) Bl))))
  (Bg (Er (i:=2) Cz.nd rfl (Or.inl rfl) (Di Fb (hr.mono (by decide)) (by rfl) mb kb bb .nil Ja (Ak (pv 0) Bl)))
  (Bg (Er (i:=3) Cz.nd rfl (Or.inl rfl) Te)
  (Bg (Er (i:=4) Cz.nd rfl (Or.inl rfl) Cu)
  (Bg (Adz PassesOwn.never rfl (Ae5 (pv 1)) (U5 (i:=5) Cz.nd rfl (Or.inl rfl))
   (Bg (Lb (Iz Ail (Af0 W2 (pv 5) Cu (λ _ _=>rfl)) Cu (Gm _)) (Ca (Er (i:=4) Cz.nd rfl (Or.inl rfl) (Jk Qp (pv 4) (Di Fw (hr.mono (by decide)) (by rfl) Dw.mg Dw.fn.kp (Dw.fn.binds (by walk_at "b")) .nil Ja (Ak (pv 2) (Ak Cu (Ak (pv 3) Bl))))))) Gv)
   (Ca (Er (i:=2) Cz.nd rfl (Or.inl rfl) (Jk W9 (pv 2) (Di Fs (hr.mono (by decide)) (by rfl) Ds.mg Ds.fn.kp (Ds.fn.binds (by walk_at "b")) .nil Ja (Ak (pv 2) (Ak (Af0 W2 (pv 5) Cu (λ _ _=>rfl)) Bl))))))))
  (Ca (G4 (pv 4))))))),num_reads h⟩
abbrev Qj:Stmt:=top 69
theorem Abv:FnScope ["flags","signs","flag","square","sign","lines","row","column"] ["flags"] (Ah Qj):=by walk_at "s"
theorem Ab5 (Dn:Dfn K mg "written" Qj f fd) (T:Txt mg) (SA:Sgn K mg) (C_squares_under:Cal P w K mg base "squares_under" ["flag"] 1 Dm):Cal P w K mg base "written" ["flags"] 2 Mi :=
 ⟨f,fd,Dn.mg,Dn.fn.kp,Dn.fn.binds (by walk_at "b"),Cm Dn.fn Abv λ cdv A outer s H E hr gd G hx =>
  Af (Jl 1 (Z7) gd.nd)
  (Af (J2 gd (Dv (Ac 0)) (Br gd 2) (λ _ e1=>Ai (J2 gd (Ak8 SA  (by rfl) T.g_zip (by rfl) (Az (ps:=["flag"]) (by exact C_squares_under) (K4 e1 hx) (by exact hr) (by decide) (by rfl) (Aa (Ac 2) (Ag))) (SF.se (Bs (Ae 2) (SF.se (Ad))))) (Ox gd 3 4) (λ _ e2=>Ai (S9 1 (hu1 gd) (Ae 3) (Ac 4))))))
  (Af (Jl 5 (Em (Ag)) gd.nd)
  (Af (J2 gd (Pr  (by rfl) T.g_range (J4 T.g_SIDE (by rfl))) (Br gd 6) (λ _ e3=>Ai (Z1 5 (Afj (SN.se (Dj gd (K4 e3 hx) (Pr  (by rfl) T.g_range (J4 T.g_SIDE (by rfl))) (⟨Il rfl (by decide +kernel) (by decide +kernel) (by walk_at "c"),Fe (N:=["flags","signs","flag","square","sign","lines","row","column"]) (by decide +kernel),Hr _ ,λ _ _ _ _=>Br (Du gd) 7,λ _ _ _ _ _ e4=>Ig,λ _ _ _ _ _ e4=>Zt (Du gd) (Ae 1) (SF.se (Bh (Aa (Ac 6) (Aa (Ac 7) (Ag))))) (Ams T.g_BARE (by rfl))⟩)))))))
  (Ai (Ax (Afj (Ae 5)))))))⟩
abbrev Xi:Stmt:=top 70
theorem Ag8:FnScope ["floor","flags"] ["floor","flags"] (Ah Xi):=by walk_at "s"
theorem Aii (Dn:Dfn K mg "shown" Xi f fd) (T:Txt mg) (C_check_laying:CalE P w K mg base "check_laying" ["floor","flags"] 4 Ao) (C_written:Cal P w K mg base "written" ["flags"] 2 Mi):CalE P w K mg base "shown" ["floor","flags"] 5 K9 :=
 ⟨f,fd,Dn.mg,Dn.fn.kp,Dn.fn.binds (by walk_at "b"),Dl Dn.fn Ag8 λ cdv A outer s H E hr gd G lk =>
  Af (Bb (SF.se (Ay (ps:=["floor","flags"]) (by exact C_check_laying) lk (by exact hr) (by decide) (by rfl) λ G hx=>(Aa (Ac 0) (Aa (Ac 1) (Ag))))))
  (Ai (Cj λ G hx=>(Ax (Az (ps:=["flags"]) (by exact C_written) hx (by exact hr) (by decide) (by rfl) (Aa (Ac 1) (Ag))))))⟩
abbrev Ip:Stmt:=top 72
theorem Rn:FnScope ["script","k"] ["script","k"] (Ah Ip):=by walk_at "s"
theorem Ra (Dn:Dfn K mg "_law_cell_at" Ip f fd) (T:Txt mg) :Cal P w K mg base "_law_cell_at" ["script","k"] 1 Ar :=
 ⟨f,fd,Dn.mg,Dn.fn.kp,Dn.fn.binds (by walk_at "b"),Cm Dn.fn Rn λ cdv A outer s H E hr gd G hx =>
  Af (Bx (Ap5 gd (Ae 1) (SF.se (Ov  (by rfl) T.g_len (Ae 0)))) (Ai (Ax (Bs (Ae 0) (Ae 1)))) (Bf))
  (Ai (Ax (Ad)))⟩
abbrev Lz:Stmt:=top 73
theorem Y8:FnScope ["top","left","ring","flags","k","floor"] ["top","left","ring"] (Ah Lz):=by walk_at "s"
theorem X4 (Dn:Dfn K mg "_law_made" Lz f fd) (T:Txt mg) :Cal P w K mg base "_law_made" ["top","left","ring"] 1 Iu :=
 ⟨f,fd,Dn.mg,Dn.fn.kp,Dn.fn.binds (by walk_at "b"),Cm Dn.fn Y8 λ cdv A outer s H E hr gd G hx =>
  Af (Bx (Gq (Ae 2)) (Af (Ba 3 (SN.sf (Em (Aa (Bh (Aa (Ac 0) (Aa (Ac 1) (Aa (Ad) (Ag))))) (Aa (Bh (Aa (Ac 0) (Aa (Bj (Ae 1) (SF.se (Ad))) (Aa (Ad) (Ag))))) (Aa (Bh (Aa (Bj (Ae 0) (SF.se (Ad))) (Aa (Ac 1) (Aa (Ad) (Ag))))) (Aa (Bh (Aa (Bj (Ae 0) (SF.se (Ad))) (Aa (Bj (Ae 1) (SF.se (Ad))) (Aa (Ad) (Ag))))) (Ag))))))) gd.nd)
  (Ai (Ax (Bh (Aa (SN.sf (Dj gd hx (Pr  (by rfl) T.g_range (Ad)) (⟨Il rfl (by decide +kernel) (by decide +kernel) (by walk_at "c"),Fe (N:=["top","left","ring","flags","k","floor"]) (by decide +kernel),Hr _ ,λ _ _ _ _=>Br (Du gd) 4,λ _ _ _ _ _ e1=>Rx (Aos (Du gd) (Ae 4) (SF.se (Ad))),λ _ _ _ _ _ e1=>Bh (Aa (Bj (Ae 0) (SF.se (Aaw (Ae 4) (SF.se (Ad))))) (Aa (Bj (Ae 1) (SF.se (Ej (Ae 4) (SF.se (Ad))))) (Ag)))⟩))) (Aa (Ac 3) (Ag))))))) (Bf))
  (Af (Ba 5 (SN.sf (Em (Aa (Bh (Aa (Ac 0) (Aa (Ac 1) (Ag)))) (Aa (Bh (Aa (Ac 0) (Aa (Bj (Ae 1) (SF.se (Ad))) (Ag)))) (Aa (Bh (Aa (Bj (Ae 0) (SF.se (Ad))) (Aa (Ac 1) (Ag)))) (Aa (Bh (Aa (Bj (Ae 0) (SF.se (Ad))) (Aa (Bj (Ae 1) (SF.se (Ad))) (Ag)))) (Ag))))))) gd.nd)
  (Ai (Ax (Bh (Aa (Ac 5) (Aa (SN.sf (Em (Aa (Bh (Aa (Ac 0) (Aa (Ac 1) (Aa (Ad) (Ag))))) (Aa (Bh (Aa (Bj (Ae 0) (SF.se (Ad))) (Aa (Ac 1) (Aa (Ad) (Ag))))) (Ag))))) (Ag)))))))⟩
abbrev Jz:Stmt:=top 74
theorem U3:FnScope ["floor","cell","far","at","place","two"] ["floor","cell"] (Ah Jz):=by walk_at "s"
theorem Tf (Dn:Dfn K mg "_law_spoilt" Jz f fd) (T:Txt mg) :Cal P w K mg base "_law_spoilt" ["floor","cell"] 1 Dg :=
 ⟨f,fd,Dn.mg,Dn.fn.kp,Dn.fn.binds (by walk_at "b"),Cm Dn.fn U3 λ cdv A outer s H E hr gd G hx =>
  Af (Ba 2 (Ej (SF.se (Aaw (Ae 1) (SF.se (Ad)))) (SF.se (Ao1 (SF.se (Ad)) (SF.se (Ad))))) gd.nd)
  (Af (Ba 3 (Ej (SF.se (Aaw (Ae 1) (SF.se (Ad)))) (SF.se (Ov  (by rfl) T.g_len (Ae 0)))) gd.nd)
  (Af (Bx (Dt gd (SF.se (Ej (Ae 1) (SF.se (Ad)))) (SF.se (Ad))) (Ai (Ax (Bj (SF.se (Dy (Ae 0) (Fp) (Fj (SF.se (Bj (Ae 3) (SF.se (Ad))))))) (SF.se (Dy (Ae 0) (Fj (Ae 3)) (Fp)))))) (Bf))
  (Af (Bx (Dt gd (SF.se (Ej (Ae 1) (SF.se (Ad)))) (SF.se (Ad))) (Ai (Ax (Bj (SF.se (Dy (Ae 0) (Fj (SF.se (Ad))) (Fp))) (SF.se (Dy (Ae 0) (Fp) (Fj (SF.se (Ad)))))))) (Bf))
  (Af (Bx (Dt gd (SF.se (Ej (Ae 1) (SF.se (Ad)))) (SF.se (Ad))) (Ai (Ax (Bj (SN.se (Em (Aa (Bs (SN.se (Em (Aa (Bh (Aa (Dq (SF.se (J1 (SF.se (Ad)))) (Ae 2)) (Aa (Ad) (Ag)))) (Aa (Bh (Aa (Ad) (Aa (Dq (SF.se (J1 (SF.se (Ad)))) (Ae 2)) (Ag)))) (Ag))))) (SF.se (Ej (Ae 3) (SF.se (Ad))))) (Ag)))) (Ae 0)))) (Bf))
  (Af (Bx (Dt gd (SF.se (Ej (Ae 1) (SF.se (Ad)))) (SF.se (Ad))) (Ai (Ax (Bj (Ae 0) (SN.se (Em (Aa (Bs (SN.se (Em (Aa (Bh (Aa (Bj (SF.se (Ad)) (Ae 2)) (Aa (Ad) (Ag)))) (Aa (Bh (Aa (Ad) (Aa (Bj (SF.se (Ad)) (Ae 2)) (Ag)))) (Ag))))) (SF.se (Ej (Ae 3) (SF.se (Ad))))) (Ag))))))) (Bf))
  (Af (Ba 4 (Ej (SF.se (Aaw (Ae 1) (SF.se (Ad)))) (SF.se (Dq (SF.se (Ov  (by rfl) T.g_len (Ae 0))) (SF.se (Ad))))) gd.nd)
  (Af (Ba 5 (SN.sf (Em (Aa (Bs (Ae 0) (SF.se (Bj (Ae 4) (SF.se (Ad))))) (Aa (Bs (Ae 0) (Ae 4)) (Ag))))) gd.nd)
  (Af (Bx (Dt gd (SF.se (Ej (Ae 1) (SF.se (Ad)))) (SF.se (Ad))) (Ai (Ax (Bj (SF.se (Bj (SF.se (Dy (Ae 0) (Fp) (Fj (Ae 4)))) (Ae 5))) (SF.se (Dy (Ae 0) (Fj (SF.se (Bj (Ae 4) (SF.se (Ad))))) (Fp)))))) (Bf))
  (Af (Bx (Dt gd (SF.se (Ej (Ae 1) (SF.se (Ad)))) (SF.se (Ad))) (Ai (Ax (Bj (SF.se (Bj (SF.se (Dy (Ae 0) (Fp) (Fj (SF.se (Bj (Ae 4) (SF.se (Ad))))))) (SN.se (Em (Aa (Bs (Ae 0) (Ae 4)) (Ag)))))) (SF.se (Dy (Ae 0) (Fj (SF.se (Bj (Ae 4) (SF.se (Ad))))) (Fp)))))) (Bf))
  (Ai (Ax (Ac 0))))))))))))⟩
abbrev K3:Stmt:=top 75
theorem Wk:FnScope ["which","floor","flags","number"] ["which","floor","flags","number"] (Ah K3):=by walk_at "s"
theorem V2 (Dn:Dfn K mg "_law_early" K3 f fd) (T:Txt mg) (C_is_plain:CalE P w K mg base "is_plain" ["floor"] 3 Bv) (C_inner:CalE P w K mg base "inner" ["floor"] 3 Fd) (C_is_laying:CalE P w K mg base "is_laying" ["floor","flags"] 3 Dc) (C_lay:CalE P w K mg base "lay" ["floor"] 36 Vk) (C_ways:CalE P w K mg base "ways" ["floor"] 26 Pb) (C_told:CalE P w K mg base "told" ["floor","number"] 27 Kp) (C_number_of:CalE P w K mg base "number_of" ["floor","flags"] 27 Cy) (C_shown:CalE P w K mg base "shown" ["floor","flags"] 5 K9):CalE P w K mg base "_law_early" ["which","floor","flags","number"] 37 Gn :=
 ⟨f,fd,Dn.mg,Dn.fn.kp,Dn.fn.binds (by walk_at "b"),Dl Dn.fn Wk λ cdv A outer s H E hr gd G lk =>
  Af (Bx (Cv λ G hx=>(Dt gd (Ae 0) (SF.se (Ad)))) (Ai (Bb (SF.se (Ay (ps:=["floor"]) (by exact C_is_plain) lk (by exact hr) (by decide) (by rfl) λ G hx=>(Aa (Ac 1) (Ag)))))) (Bf))
  (Af (Bx (Cv λ G hx=>(Dt gd (Ae 0) (SF.se (Ad)))) (Ai (Bb (SF.se (Ay (ps:=["floor"]) (by exact C_inner) lk (by exact hr) (by decide) (by rfl) λ G hx=>(Aa (Ac 1) (Ag)))))) (Bf))
  (Af (Bx (Cv λ G hx=>(Dt gd (Ae 0) (SF.se (Ad)))) (Ai (Bb (SF.se (Ay (ps:=["floor","flags"]) (by exact C_is_laying) lk (by exact hr) (by decide) (by rfl) λ G hx=>(Aa (Ac 1) (Aa (Ac 2) (Ag))))))) (Bf))
  (Af (Bx (Cv λ G hx=>(Dt gd (Ae 0) (SF.se (Ad)))) (Ai (Bb (SF.se (Ay (ps:=["floor"]) (by exact C_lay) lk (by exact hr) (by decide) (by rfl) λ G hx=>(Aa (Ac 1) (Ag)))))) (Bf))
  (Af (Bx (Cv λ G hx=>(Dt gd (Ae 0) (SF.se (Ad)))) (Ai (Bb (SF.se (Ay (ps:=["floor"]) (by exact C_ways) lk (by exact hr) (by decide) (by rfl) λ G hx=>(Aa (Ac 1) (Ag)))))) (Bf))
  (Af (Bx (Cv λ G hx=>(Dt gd (Ae 0) (SF.se (Ad)))) (Ai (Bb (SF.se (Ay (ps:=["floor","number"]) (by exact C_told) lk (by exact hr) (by decide) (by rfl) λ G hx=>(Aa (Ac 1) (Aa (Ac 3) (Ag))))))) (Bf))
  (Af (Bx (Cv λ G hx=>(Dt gd (Ae 0) (SF.se (Ad)))) (Ai (Bb (SF.se (Ay (ps:=["floor","flags"]) (by exact C_number_of) lk (by exact hr) (by decide) (by rfl) λ G hx=>(Aa (Ac 1) (Aa (Ac 2) (Ag))))))) (Bf))
  (Ai (Bx (Cv λ G hx=>(Dt gd (Ae 0) (SF.se (Ad)))) (Ai (Bb (SF.se (Ay (ps:=["floor","flags"]) (by exact C_shown) lk (by exact hr) (by decide) (by rfl) λ G hx=>(Aa (Ac 1) (Aa (Ac 2) (Ag))))))) (Bf)))))))))⟩
abbrev Ml:Stmt:=top 76
theorem Yv:FnScope ["which","floor","flags","others","corner"] ["which","floor","flags","others","corner"] (Ah Ml):=by walk_at "s"
theorem Yg (Dn:Dfn K mg "_law_late" Ml f fd) (T:Txt mg) (C_corners:CalE P w K mg base "corners" ["floor","flags"] 5 Ih) (C_turned:CalE P w K mg base "turned" ["floor","flags","corner"] 5 Jp) (C_rises:CalE P w K mg base "rises" ["floor","flags","corner"] 5 Lg) (C_gaps:CalE P w K mg base "gaps" ["floor","ones","others"] 6 O4) (C_way:CalE P w K mg base "way" ["floor","ones","others"] 6 Wo) (C_upper:CalE P w K mg base "upper" ["floor","ones","others"] 6 Lk) (C_lower:CalE P w K mg base "lower" ["floor","ones","others"] 6 La) (C_highest:CalE P w K mg base "highest" ["floor","flags"] 6 Ib) (C_lowest:CalE P w K mg base "lowest" ["floor","flags"] 6 J3):CalE P w K mg base "_law_late" ["which","floor","flags","others","corner"] 7 Hf :=
 ⟨f,fd,Dn.mg,Dn.fn.kp,Dn.fn.binds (by walk_at "b"),Dl Dn.fn Yv λ cdv A outer s H E hr gd G lk =>
  Af (Bx (Cv λ G hx=>(Dt gd (Ae 0) (SF.se (Ad)))) (Ai (Bb (SF.se (Ay (ps:=["floor","flags"]) (by exact C_corners) lk (by exact hr) (by decide) (by rfl) λ G hx=>(Aa (Ac 1) (Aa (Ac 2) (Ag))))))) (Bf))
  (Af (Bx (Cv λ G hx=>(Dt gd (Ae 0) (SF.se (Ad)))) (Ai (Bb (SF.se (Ay (ps:=["floor","flags","corner"]) (by exact C_turned) lk (by exact hr) (by decide) (by rfl) λ G hx=>(Aa (Ac 1) (Aa (Ac 2) (Aa (Ac 4) (Ag)))))))) (Bf))
  (Af (Bx (Cv λ G hx=>(Dt gd (Ae 0) (SF.se (Ad)))) (Ai (Bb (SF.se (Ay (ps:=["floor","flags","corner"]) (by exact C_rises) lk (by exact hr) (by decide) (by rfl) λ G hx=>(Aa (Ac 1) (Aa (Ac 2) (Aa (Ac 4) (Ag)))))))) (Bf))
  (Af (Bx (Cv λ G hx=>(Dt gd (Ae 0) (SF.se (Ad)))) (Ai (Bb (SF.se (Ay (ps:=["floor","ones","others"]) (by exact C_gaps) lk (by exact hr) (by decide) (by rfl) λ G hx=>(Aa (Ac 1) (Aa (Ac 2) (Aa (Ac 3) (Ag)))))))) (Bf))
  (Af (Bx (Cv λ G hx=>(Dt gd (Ae 0) (SF.se (Ad)))) (Ai (Bb (SF.se (Ay (ps:=["floor","ones","others"]) (by exact C_way) lk (by exact hr) (by decide) (by rfl) λ G hx=>(Aa (Ac 1) (Aa (Ac 2) (Aa (Ac 3) (Ag)))))))) (Bf))
  (Af (Bx (Cv λ G hx=>(Dt gd (Ae 0) (SF.se (Ad)))) (Ai (Bb (SF.se (Ay (ps:=["floor","ones","others"]) (by exact C_upper) lk (by exact hr) (by decide) (by rfl) λ G hx=>(Aa (Ac 1) (Aa (Ac 2) (Aa (Ac 3) (Ag)))))))) (Bf))
  (Af (Bx (Cv λ G hx=>(Dt gd (Ae 0) (SF.se (Ad)))) (Ai (Bb (SF.se (Ay (ps:=["floor","ones","others"]) (by exact C_lower) lk (by exact hr) (by decide) (by rfl) λ G hx=>(Aa (Ac 1) (Aa (Ac 2) (Aa (Ac 3) (Ag)))))))) (Bf))
  (Af (Bx (Cv λ G hx=>(Dt gd (Ae 0) (SF.se (Ad)))) (Ai (Bb (SF.se (Ay (ps:=["floor","flags"]) (by exact C_highest) lk (by exact hr) (by decide) (by rfl) λ G hx=>(Aa (Ac 1) (Aa (Ac 2) (Ag))))))) (Bf))
  (Ai (Bx (Cv λ G hx=>(Dt gd (Ae 0) (SF.se (Ad)))) (Ai (Bb (SF.se (Ay (ps:=["floor","flags"]) (by exact C_lowest) lk (by exact hr) (by decide) (by rfl) λ G hx=>(Aa (Ac 1) (Aa (Ac 2) (Ag))))))) (Bf))))))))))⟩
abbrev Bt:Stmt:=top 77
theorem Wv:FnScope ["which","floor","flags","others","number","corner","found","e","kinds"] ["which","floor","flags","others","number","corner"] (Ah Bt):=by walk_at "s"
theorem El {qual:Str}{f:Addr}{cdv:Value}{A:Around}{outer:List Env}{s:Shared}{H:Hp}{E:XK}{e:Addr}{o:Obj}{b1 b2 b3 b4 b5 b6:Bool}{j:Nat}(hN:(["which","floor","flags","others","number","corner","found","e","kinds"]:List Str).Nodup) (h_1:(([b1,b2,b3,b4,b5,b6].map Value.bool).countP (isBoolOf true))=1) (h_j:j<100) (h_2:[b1,b2,b3,b4,b5,b6][j]?=some true) (h_3:∀ m,m<j->[b1,b2,b3,b4,b5,b6][m]?=some false) (h1:∀ p p2 p3 pos,HE (pcx (bx P w K mg base ["which","floor","flags","others","number","corner","found","e","kinds"] qual (Ah Bt) f cdv A outer s H E) e o) e 6 (.Call (.Name "isinstance" p) [.Name "found" p2,.Name "NoFloor" p3] [] pos) (.bl b1)) (h2:∀ p p2 p3 pos,HE (pcx (bx P w K mg base ["which","floor","flags","others","number","corner","found","e","kinds"] qual (Ah Bt) f cdv A outer s H E) e o) e 6 (.Call (.Name "isinstance" p) [.Name "found" p2,.Name "NotPlain" p3] [] pos) (.bl b2)) (h3:∀ p p2 p3 pos,HE (pcx (bx P w K mg base ["which","floor","flags","others","number","corner","found","e","kinds"] qual (Ah Bt) f cdv A outer s H E) e o) e 6 (.Call (.Name "isinstance" p) [.Name "found" p2,.Name "NoLaying" p3] [] pos) (.bl b3)) (h4:∀ p p2 p3 pos,HE (pcx (bx P w K mg base ["which","floor","flags","others","number","corner","found","e","kinds"] qual (Ah Bt) f cdv A outer s H E) e o) e 6 (.Call (.Name "isinstance" p) [.Name "found" p2,.Name "NoNumber" p3] [] pos) (.bl b4)) (h5:∀ p p2 p3 pos,HE (pcx (bx P w K mg base ["which","floor","flags","others","number","corner","found","e","kinds"] qual (Ah Bt) f cdv A outer s H E) e o) e 6 (.Call (.Name "isinstance" p) [.Name "found" p2,.Name "NoTurn" p3] [] pos) (.bl b5)) (h6:∀ p p2 p3 pos,HE (pcx (bx P w K mg base ["which","floor","flags","others","number","corner","found","e","kinds"] qual (Ah Bt) f cdv A outer s H E) e o) e 6 (.Call (.Name "isinstance" p) [.Name "found" p2,.Name "NoNote" p3] [] pos) (.bl b6)) (h7:∀ p p2 p3 pos,HE (pcx (bx P w K mg base ["which","floor","flags","others","number","corner","found","e","kinds"] qual (Ah Bt) f cdv A outer s H E) e o) e 6 (.Call (.Name "isinstance" p) [.Name "found" p2,.Name "ValueError" p3] [] pos) (.bl true)):HR (pcx (bx P w K mg base ["which","floor","flags","others","number","corner","found","e","kinds"] qual (Ah Bt) f cdv A outer s H E) e o) e 6 ((Gb Bt).drop 2) (.int (1+(j:Nat))) :=
 (show PSs _ _ (Ajp K e b1 b2 b3 b4 b5 b6 true) from Bg (Lb (R8 (Ajw (pv 6))) (Ca (G4 Cu)) Gv)
  (Bg (Er (i:=8) hN rfl (Or.inl rfl) (Aax (Ak (h1 _ _ _ _) (Ak (h2 _ _ _ _) (Ak (h3 _ _ _ _) (Bl))))))
  (Bg (Er (i:=8) hN rfl (Or.inl rfl) (Jk Ai2 (pv 8) (Aax (Ak (h4 _ _ _ _) (Ak (h5 _ _ _ _) (Ak (h6 _ _ _ _) (Bl)))))))
  (Bg (Lb (PW.pt (Amb (Iz Alq (Abj PySem.F.plainAttrs_list PySem.F.slot_list_count PySem.F.type_list_count Aif (pv 8) (Ak Akk Bl)) Cu (Gm _)) (Ae8 (Aao (Afd (h7 _ _ _ _)))))) (Ca (G4 Cu)) Gv)
  (Ca (G4 (Jk Qp Cu (Abj PySem.F.plainAttrs_list PySem.F.slot_list_index PySem.F.type_list_index Aia (pv 8) (Ak Akk Bl))))))))).imp λ D σ H z=>Yd h_1 h_j h_2 h_3 z.1 z.2.1 z.2.2
theorem Wn (Dn:Dfn K mg "_law_asked" Bt f fd) (T:Txt mg) (XT:Exs K mg cFloorError cNoFloor cNoLaying cNoNumber cNoTurn cNotPlain cNoNote) (C_law_early:CalE P w K mg base "_law_early" ["which","floor","flags","number"] 37 Gn) (C_law_late:CalE P w K mg base "_law_late" ["which","floor","flags","others","corner"] 7 Hf):Cal P w K mg base "_law_asked" ["which","floor","flags","others","number","corner"] 38 Es :=
 ⟨f,fd,Dn.mg,Dn.fn.kp,Dn.fn.binds (by walk_at "b"),Cm Dn.fn Wv λ cdv A outer s H E hr gd G hx =>
  Af (Ba 6 (Aqa) gd.nd)
  (Aof (i:=7) (i0:=6) (D:=cFloorError) (Af3 (ps:=["which","floor","flags","number"]) (by exact C_law_early) (by exact hr) (by decide) (by rfl) λ G hx=>(Aa (Ac 0) (Aa (Ac 1) (Aa (Ac 2) (Aa (Ac 4) (Ag)))))) (Af3 (ps:=["which","floor","flags","others","corner"]) (by exact C_law_late) (by exact hr) (by decide) (by rfl) λ G hx=>(Aa (Ac 0) (Aa (Ac 1) (Aa (Ac 2) (Aa (Ac 3) (Aa (Ac 5) (Ag))))))) (Af (Bx (Apq (Ae 6)) (Ai (Ax Ad)) Bf) T8) (λ e o=>Ca (Er (i:=6) gd.nd rfl (Or.inl rfl) (pv 7)))
  ⟨λ c d C e o vs h1 h2 h3 h4=>by rcases Ol h1 with ⟨rfl,rfl⟩|⟨rfl,rfl⟩|⟨rfl,rfl⟩|⟨rfl,rfl⟩|⟨rfl,rfl⟩<;>first|(obtain rfl:=Value.ref.inj (Option.some.inj (h2.symm.trans XT.m_NoFloor));exact⟨XT.s_NoFloor_FloorError,.int 1,El (j:=0) gd.nd rfl (by decide) rfl (by decide) (λ _ _ _ _=>Ci ⟨o,vs,.head _,h3,h4⟩ XT.t_NoFloor.toXCls (by rfl) T.g_isinstance (by rfl) XT.m_NoFloor XT.k_NoFloor_NoFloor) (λ _ _ _ _=>Ci ⟨o,vs,.head _,h3,h4⟩ XT.t_NoFloor.toXCls (by rfl) T.g_isinstance (by rfl) XT.m_NotPlain XT.k_NoFloor_NotPlain) (λ _ _ _ _=>Ci ⟨o,vs,.head _,h3,h4⟩ XT.t_NoFloor.toXCls (by rfl) T.g_isinstance (by rfl) XT.m_NoLaying XT.k_NoFloor_NoLaying) (λ _ _ _ _=>Ci ⟨o,vs,.head _,h3,h4⟩ XT.t_NoFloor.toXCls (by rfl) T.g_isinstance (by rfl) XT.m_NoNumber XT.k_NoFloor_NoNumber) (λ _ _ _ _=>Ci ⟨o,vs,.head _,h3,h4⟩ XT.t_NoFloor.toXCls (by rfl) T.g_isinstance (by rfl) XT.m_NoTurn XT.k_NoFloor_NoTurn) (λ _ _ _ _=>Ci ⟨o,vs,.head _,h3,h4⟩ XT.t_NoFloor.toXCls (by rfl) T.g_isinstance (by rfl) XT.m_NoNote XT.k_NoFloor_NoNote) (λ _ _ _ _=>Wu "ValueError" ⟨o,vs,.head _,h3,h4⟩ XT.t_NoFloor.toXCls (by rfl) T.g_isinstance (by rfl) T.g_ValueError XT.b_NoFloor_ValueError),λ K H O=>by unfold Rp;rfl⟩)|(obtain rfl:=Value.ref.inj (Option.some.inj (h2.symm.trans XT.m_NoLaying));exact⟨XT.s_NoLaying_FloorError,.int 3,El (j:=2) gd.nd rfl (by decide) rfl (by decide) (λ _ _ _ _=>Ci ⟨o,vs,.head _,h3,h4⟩ XT.t_NoLaying.toXCls (by rfl) T.g_isinstance (by rfl) XT.m_NoFloor XT.k_NoLaying_NoFloor) (λ _ _ _ _=>Ci ⟨o,vs,.head _,h3,h4⟩ XT.t_NoLaying.toXCls (by rfl) T.g_isinstance (by rfl) XT.m_NotPlain XT.k_NoLaying_NotPlain) (λ _ _ _ _=>Ci ⟨o,vs,.head _,h3,h4⟩ XT.t_NoLaying.toXCls (by rfl) T.g_isinstance (by rfl) XT.m_NoLaying XT.k_NoLaying_NoLaying) (λ _ _ _ _=>Ci ⟨o,vs,.head _,h3,h4⟩ XT.t_NoLaying.toXCls (by rfl) T.g_isinstance (by rfl) XT.m_NoNumber XT.k_NoLaying_NoNumber) (λ _ _ _ _=>Ci ⟨o,vs,.head _,h3,h4⟩ XT.t_NoLaying.toXCls (by rfl) T.g_isinstance (by rfl) XT.m_NoTurn XT.k_NoLaying_NoTurn) (λ _ _ _ _=>Ci ⟨o,vs,.head _,h3,h4⟩ XT.t_NoLaying.toXCls (by rfl) T.g_isinstance (by rfl) XT.m_NoNote XT.k_NoLaying_NoNote) (λ _ _ _ _=>Wu "ValueError" ⟨o,vs,.head _,h3,h4⟩ XT.t_NoLaying.toXCls (by rfl) T.g_isinstance (by rfl) T.g_ValueError XT.b_NoLaying_ValueError),λ K H O=>by unfold Rp;rfl⟩)|(obtain rfl:=Value.ref.inj (Option.some.inj (h2.symm.trans XT.m_NotPlain));exact⟨XT.s_NotPlain_FloorError,.int 2,El (j:=1) gd.nd rfl (by decide) rfl (by decide) (λ _ _ _ _=>Ci ⟨o,vs,.head _,h3,h4⟩ XT.t_NotPlain.toXCls (by rfl) T.g_isinstance (by rfl) XT.m_NoFloor XT.k_NotPlain_NoFloor) (λ _ _ _ _=>Ci ⟨o,vs,.head _,h3,h4⟩ XT.t_NotPlain.toXCls (by rfl) T.g_isinstance (by rfl) XT.m_NotPlain XT.k_NotPlain_NotPlain) (λ _ _ _ _=>Ci ⟨o,vs,.head _,h3,h4⟩ XT.t_NotPlain.toXCls (by rfl) T.g_isinstance (by rfl) XT.m_NoLaying XT.k_NotPlain_NoLaying) (λ _ _ _ _=>Ci ⟨o,vs,.head _,h3,h4⟩ XT.t_NotPlain.toXCls (by rfl) T.g_isinstance (by rfl) XT.m_NoNumber XT.k_NotPlain_NoNumber) (λ _ _ _ _=>Ci ⟨o,vs,.head _,h3,h4⟩ XT.t_NotPlain.toXCls (by rfl) T.g_isinstance (by rfl) XT.m_NoTurn XT.k_NotPlain_NoTurn) (λ _ _ _ _=>Ci ⟨o,vs,.head _,h3,h4⟩ XT.t_NotPlain.toXCls (by rfl) T.g_isinstance (by rfl) XT.m_NoNote XT.k_NotPlain_NoNote) (λ _ _ _ _=>Wu "ValueError" ⟨o,vs,.head _,h3,h4⟩ XT.t_NotPlain.toXCls (by rfl) T.g_isinstance (by rfl) T.g_ValueError XT.b_NotPlain_ValueError),λ K H O=>by unfold Rp;rfl⟩)|(obtain rfl:=Value.ref.inj (Option.some.inj (h2.symm.trans XT.m_NoTurn));exact⟨XT.s_NoTurn_FloorError,.int 5,El (j:=4) gd.nd rfl (by decide) rfl (by decide) (λ _ _ _ _=>Ci ⟨o,vs,.head _,h3,h4⟩ XT.t_NoTurn.toXCls (by rfl) T.g_isinstance (by rfl) XT.m_NoFloor XT.k_NoTurn_NoFloor) (λ _ _ _ _=>Ci ⟨o,vs,.head _,h3,h4⟩ XT.t_NoTurn.toXCls (by rfl) T.g_isinstance (by rfl) XT.m_NotPlain XT.k_NoTurn_NotPlain) (λ _ _ _ _=>Ci ⟨o,vs,.head _,h3,h4⟩ XT.t_NoTurn.toXCls (by rfl) T.g_isinstance (by rfl) XT.m_NoLaying XT.k_NoTurn_NoLaying) (λ _ _ _ _=>Ci ⟨o,vs,.head _,h3,h4⟩ XT.t_NoTurn.toXCls (by rfl) T.g_isinstance (by rfl) XT.m_NoNumber XT.k_NoTurn_NoNumber) (λ _ _ _ _=>Ci ⟨o,vs,.head _,h3,h4⟩ XT.t_NoTurn.toXCls (by rfl) T.g_isinstance (by rfl) XT.m_NoTurn XT.k_NoTurn_NoTurn) (λ _ _ _ _=>Ci ⟨o,vs,.head _,h3,h4⟩ XT.t_NoTurn.toXCls (by rfl) T.g_isinstance (by rfl) XT.m_NoNote XT.k_NoTurn_NoNote) (λ _ _ _ _=>Wu "ValueError" ⟨o,vs,.head _,h3,h4⟩ XT.t_NoTurn.toXCls (by rfl) T.g_isinstance (by rfl) T.g_ValueError XT.b_NoTurn_ValueError),λ K H O=>by unfold Rp;rfl⟩)|(obtain rfl:=Value.ref.inj (Option.some.inj (h2.symm.trans XT.m_NoNumber));exact⟨XT.s_NoNumber_FloorError,.int 4,El (j:=3) gd.nd rfl (by decide) rfl (by decide) (λ _ _ _ _=>Ci ⟨o,vs,.head _,h3,h4⟩ XT.t_NoNumber.toXCls (by rfl) T.g_isinstance (by rfl) XT.m_NoFloor XT.k_NoNumber_NoFloor) (λ _ _ _ _=>Ci ⟨o,vs,.head _,h3,h4⟩ XT.t_NoNumber.toXCls (by rfl) T.g_isinstance (by rfl) XT.m_NotPlain XT.k_NoNumber_NotPlain) (λ _ _ _ _=>Ci ⟨o,vs,.head _,h3,h4⟩ XT.t_NoNumber.toXCls (by rfl) T.g_isinstance (by rfl) XT.m_NoLaying XT.k_NoNumber_NoLaying) (λ _ _ _ _=>Ci ⟨o,vs,.head _,h3,h4⟩ XT.t_NoNumber.toXCls (by rfl) T.g_isinstance (by rfl) XT.m_NoNumber XT.k_NoNumber_NoNumber) (λ _ _ _ _=>Ci ⟨o,vs,.head _,h3,h4⟩ XT.t_NoNumber.toXCls (by rfl) T.g_isinstance (by rfl) XT.m_NoTurn XT.k_NoNumber_NoTurn) (λ _ _ _ _=>Ci ⟨o,vs,.head _,h3,h4⟩ XT.t_NoNumber.toXCls (by rfl) T.g_isinstance (by rfl) XT.m_NoNote XT.k_NoNumber_NoNote) (λ _ _ _ _=>Wu "ValueError" ⟨o,vs,.head _,h3,h4⟩ XT.t_NoNumber.toXCls (by rfl) T.g_isinstance (by rfl) T.g_ValueError XT.b_NoNumber_ValueError),λ K H O=>by unfold Rp;rfl⟩)⟩
  (by decide) gd.nd rfl rfl (by rfl) XT.m_FloorError XT.t_FloorError)⟩
abbrev Qk:Stmt:=top 78
theorem Ach:FnScope ["which","bad","ring","share","odd"] ["which","bad","ring","share","odd"] (Ah Qk):=by walk_at "s"
theorem Aa5 (Dn:Dfn K mg "_law_due" Qk f fd) (T:Txt mg) :Cal P w K mg base "_law_due" ["which","bad","ring","share","odd"] 1 Ik :=
 ⟨f,fd,Dn.mg,Dn.fn.kp,Dn.fn.binds (by walk_at "b"),Cm Dn.fn Ach λ cdv A outer s H E hr gd G hx =>
  Af (Bx (Gq (Ae 1)) (Ai (Ax (Ad))) (Bf))
  (Af (Bx (SW.st (R5 (Gq (Ae 2)) (M4 (Akw gd (Ae 0) (SF.se (Ad)))))) (Ai (Ax (Ad))) (Bf))
  (Af (Bx (SW.st (Amr (SW.st (R5 (Dt gd (Ae 3) (SF.se (Ad))) (M4 (Akw gd (Ae 0) (SF.se (Ad)))))) (Af6 (SW.st (R5 (Dt gd (Ae 3) (SF.se (Ad))) (M4 (At7 Z0 Z0 (SF.se (Ad)) (Ae 0) (SF.se (Ad))))))))) (Ai (Ax (Ad))) (Bf))
  (Af (Bx (SW.st (R5 (Dt gd (Ae 0) (SF.se (Ad))) (M4 (Gq (Ae 4))))) (Ai (Ax (Ad))) (Bf))
  (Af (Bx (SW.st (R5 (SW.st (Amr (Dt gd (Ae 0) (SF.se (Ad))) (Af6 (Dt gd (Ae 0) (SF.se (Ad)))))) (M4 (SW.st (Amr (Gq (Ae 4)) (Af6 (Gq (Ae 2)))))))) (Ai (Ax (Ad))) (Bf))
  (Ai (Ax (Ad)))))))⟩
abbrev Akm:Stmt:=top 79
theorem Ang:FnScope ["script","which","ring","made","cell","floor","flags","others","share","odd","number","corner","due"] ["script"] (Ah Akm):=by walk_at "s"
theorem Aky (Dn:Dfn K mg "law" Akm f fd) (T:Txt mg) (C_law_cell_at:Cal P w K mg base "_law_cell_at" ["script","k"] 1 Ar) (C_law_made:Cal P w K mg base "_law_made" ["top","left","ring"] 1 Iu) (C_law_spoilt:Cal P w K mg base "_law_spoilt" ["floor","cell"] 1 Dg) (C_law_due:Cal P w K mg base "_law_due" ["which","bad","ring","share","odd"] 1 Ik) (C_law_asked:Cal P w K mg base "_law_asked" ["which","floor","flags","others","number","corner"] 38 Es):FnOk P w K mg base CX0 39 f fd ["script"] (spD K 1 M6):=Cm Dn.fn Ang λ cdv A outer s H E hr gd G hx =>
  Af (Ba 1 (Ej (SF.se (Az (ps:=["script","k"]) (by exact C_law_cell_at) hx (by exact hr) (by decide) (by rfl) (Aa (Ac 0) (Aa (Ad) (Ag))))) (SF.se (Ad))) gd.nd)
  (Af (Ba 2 (Abt gd (SF.se (Ej (SF.se (Az (ps:=["script","k"]) (by exact C_law_cell_at) hx (by exact hr) (by decide) (by rfl) (Aa (Ac 0) (Aa (Ad) (Ag))))) (SF.se (Ad)))) (SF.se (Ad))) gd.nd)
  (Af (Ba 3 (Az (ps:=["top","left","ring"]) (by exact C_law_made) hx (by exact hr) (by decide) (by rfl) (Aa (Ej (SF.se (Az (ps:=["script","k"]) (by exact C_law_cell_at) hx (by exact hr) (by decide) (by rfl) (Aa (Ac 0) (Aa (Ad) (Ag))))) (SF.se (Ad))) (Aa (Ej (SF.se (Az (ps:=["script","k"]) (by exact C_law_cell_at) hx (by exact hr) (by decide) (by rfl) (Aa (Ac 0) (Aa (Ad) (Ag))))) (SF.se (Ad))) (Aa (Ac 2) (Ag))))) gd.nd)
  (Af (Ba 4 (Az (ps:=["script","k"]) (by exact C_law_cell_at) hx (by exact hr) (by decide) (by rfl) (Aa (Ac 0) (Aa (Ad) (Ag)))) gd.nd)
  (Af (Ba 5 (Az (ps:=["floor","cell"]) (by exact C_law_spoilt) hx (by exact hr) (by decide) (by rfl) (Aa (Bs (Ae 3) (SF.se (Ad))) (Aa (Ac 4) (Ag)))) gd.nd)
  (Af (Ba 6 (SN.sf (Tn  (by rfl) T.g_list (SF.se (Bs (Ae 3) (SF.se (Ad)))))) gd.nd)
  (Af (Ba 7 (SN.sf (Tn  (by rfl) T.g_list (SF.se (Bs (Ae 3) (SF.se (Ad)))))) gd.nd)
  (Af (Ba 8 (Ej (SF.se (Az (ps:=["script","k"]) (by exact C_law_cell_at) hx (by exact hr) (by decide) (by rfl) (Aa (Ac 0) (Aa (Ad) (Ag))))) (SF.se (Ad))) gd.nd)
  (Af (Bx (Dt gd (Ae 8) (SF.se (Ad))) (Ai (Ba 6 (Dy (Ae 6) (Fj (SF.se (Ad))) (Fp)) gd.nd)) (Bf))
  (Af (Bx (Dt gd (Ae 8) (SF.se (Ad))) (Ai (Ba 7 (Dy (Ae 7) (Fp) (Fj (SF.se (J1 (SF.se (Ad)))))) gd.nd)) (Bf))
  (Af (Ba 9 (Abt gd (SF.se (Ej (SF.se (Az (ps:=["script","k"]) (by exact C_law_cell_at) hx (by exact hr) (by decide) (by rfl) (Aa (Ac 0) (Aa (Ad) (Ag))))) (SF.se (Ad)))) (SF.se (Ad))) gd.nd)
  (Af (Ba 10 (Ad) gd.nd)
  (Af (Ba 11 (Bh (Aa (Bj (SF.se (Bs (SF.se (Bs (SF.se (Bs (Ae 3) (SF.se (Ad)))) (SF.se (Ad)))) (SF.se (Ad)))) (SF.se (Ad))) (Aa (Bj (SF.se (Bs (SF.se (Bs (SF.se (Bs (Ae 3) (SF.se (Ad)))) (SF.se (Ad)))) (SF.se (Ad)))) (SF.se (Ad))) (Ag)))) gd.nd)
  (Af (Bx (Gq (Ae 9)) (Af (Ba 10 (J1 (SF.se (Ad))) gd.nd)
  (Ai (Ba 11 (Bh (Aa (Ad) (Aa (Ad) (Ag)))) gd.nd))) (Bf))
  (Af (Ba 12 (Az (ps:=["which","bad","ring","share","odd"]) (by exact C_law_due) hx (by exact hr) (by decide) (by rfl) (Aa (Ac 1) (Aa (Atb gd (SF.se (Ej (Ae 4) (SF.se (Ad)))) (SF.se (Ad))) (Aa (Ac 2) (Aa (Ac 8) (Aa (Ac 9) (Ag))))))) gd.nd)
  (Ai (Ax (Abt gd (SF.se (Az (ps:=["which","floor","flags","others","number","corner"]) (by exact C_law_asked) hx (by exact hr) (by decide) (by rfl) (Aa (Ac 1) (Aa (Ac 5) (Aa (Ac 6) (Aa (Ac 7) (Aa (Ac 10) (Aa (Ac 11) (Ag))))))))) (Ae 12))))))))))))))))))
theorem law_F {h:Heap}{fa:Addr}(KX:K.In h) (GX:h.Ns mainGlobals mg) (hfa:mg "law"=some (.ref fa))
  (e_on_board:∃ f,Ent K "on_board" Mu f)
  (e_check_floor:∃ f,Ent K "check_floor" Jd f)
  (e_marked:∃ f,Ent K "marked" Ub f)
  (e_neighbours:∃ f,Ent K "neighbours" Jr f)
  (e_places_about:∃ f,Ent K "places_about" Hs f)
  (e_reached_outside:∃ f,Ent K "reached_outside" Gi f)
  (e_is_plain:∃ f,Ent K "is_plain" Mt f)
  (e_squares_at:∃ f,Ent K "squares_at" Jq f)
  (e_inner:∃ f,Ent K "inner" Za f)
  (e_squares_under:∃ f,Ent K "squares_under" G5 f)
  (e_are_in_order:∃ f,Ent K "are_in_order" Hu f)
  (e_all_under:∃ f,Ent K "all_under" Kz f)
  (e_is_laying:∃ f,Ent K "is_laying" Ku f)
  (e_check_laying:∃ f,Ent K "check_laying" Hw f)
  (e_half_of:∃ f,Ent K "half_of" Oq f)
  (e_larger_half:∃ f,Ent K "larger_half" Ir f)
  (e_finds_partner:∃ f,Ent K "finds_partner" Ey f)
  (e_wall_from:∃ f,Ent K "wall_from" Kq f)
  (e_flag_over:∃ f,Ent K "flag_over" Ko f)
  (e_lay:∃ f,Ent K "lay" Aj4 f)
  (e_pair_at:∃ f,Ent K "pair_at" O5 f)
  (e_has_pair:∃ f,Ent K "has_pair" Mg f)
  (e_slope:∃ f,Ent K "slope" X8 f)
  (e_turned_at:∃ f,Ent K "turned_at" K1 f)
  (e_check_turn:∃ f,Ent K "check_turn" Jw f)
  (e_corners:∃ f,Ent K "corners" Qn f)
  (e_turned:∃ f,Ent K "turned" T3 f)
  (e_rises:∃ f,Ent K "rises" Y0 f)
  (e_check_plain:∃ f,Ent K "check_plain" Im f)
  (e_check_one:∃ f,Ent K "check_one" Ks f)
  (e_check_both:∃ f,Ent K "check_both" Jv f)
  (e_gap_step:∃ f,Ent K "gap_step" Mz f)
  (e_gap_by_corner:∃ f,Ent K "gap_by_corner" G3 f)
  (e_led:∃ f,Ent K "led" Alp f)
  (e_led_to_end:∃ f,Ent K "led_to_end" Jy f)
  (e_gaps:∃ f,Ent K "gaps" Adw f)
  (e_way:∃ f,Ent K "way" Akx f)
  (e_upper:∃ f,Ent K "upper" Xx f)
  (e_lower:∃ f,Ent K "lower" Ye f)
  (e_highest:∃ f,Ent K "highest" Oo f)
  (e_lowest:∃ f,Ent K "lowest" Tj f)
  (e_bits_of:∃ f,Ent K "bits_of" Qu f)
  (e_first_square:∃ f,Ent K "first_square" Gk f)
  (e_span_on_first:∃ f,Ent K "span_on_first" Cd f)
  (e_ways_with:∃ f,Ent K "ways_with" Ge f)
  (e_ways_over:∃ f,Ent K "ways_over" Gj f)
  (e_ways:∃ f,Ent K "ways" Ado f)
  (e_told:∃ f,Ent K "told" Adr f)
  (e_number_of:∃ f,Ent K "number_of" Kw f)
  (e_written:∃ f,Ent K "written" Qj f)
  (e_shown:∃ f,Ent K "shown" Xi f)
  (e_law_cell_at:∃ f,Ent K "_law_cell_at" Ip f)
  (e_law_made:∃ f,Ent K "_law_made" Lz f)
  (e_law_spoilt:∃ f,Ent K "_law_spoilt" Jz f)
  (e_law_early:∃ f,Ent K "_law_early" K3 f)
  (e_law_late:∃ f,Ent K "_law_late" Ml f)
  (e_law_asked:∃ f,Ent K "_law_asked" Bt f)
  (e_law_due:∃ f,Ent K "_law_due" Qk f)
  (e_law:∃ f,Ent K "law" Akm f)
  (z_SIDE:∃ t,PySem.W.nsIn K mainGlobals "SIDE"=some (some (.int 8 t)))
  (z_zip:PySem.W.nsIn K mainGlobals "zip"=some none)
  (z_dict:PySem.W.nsIn K mainGlobals "dict"=some none)
  (z_max:PySem.W.nsIn K mainGlobals "max"=some none)
  (z_min:PySem.W.nsIn K mainGlobals "min"=some none)
  (z_range:PySem.W.nsIn K mainGlobals "range"=some none)
  (z_len:PySem.W.nsIn K mainGlobals "len"=some none)
  (z_PLACES:∃ t,PySem.W.nsIn K mainGlobals "PLACES"=some (some (.int 100 t)))
  (z_all:PySem.W.nsIn K mainGlobals "all"=some none)
  (z_sorted:PySem.W.nsIn K mainGlobals "sorted"=some none)
  (z_list:PySem.W.nsIn K mainGlobals "list"=some none)
  (z_any:PySem.W.nsIn K mainGlobals "any"=some none)
  (z_ROW_BITS:∃ t,PySem.W.nsIn K mainGlobals "ROW_BITS"=some (some (.int 9 t)))
  (z_sum:PySem.W.nsIn K mainGlobals "sum"=some none)
  (z_divmod:PySem.W.nsIn K mainGlobals "divmod"=some none)
  (z_BARE:∃ t,PySem.W.nsIn K mainGlobals "BARE"=some (some (.str "." t)))
  (z_isinstance:PySem.W.nsIn K mainGlobals "isinstance"=some none)
  (z_ValueError:PySem.W.nsIn K mainGlobals "ValueError"=some none)
  {aS:Addr} {dS_:Option Addr} {nS:Nat} {slS:Array (Option Value)} {tS uS:PySem.Tok} (n_SPANS:PySem.W.nsIn K mainGlobals "SPANS"=some (some (.ref aS))) (l_SPANS:K.lookup aS=some ⟨.type "tuple",dS_,.seq #[.int 3 tS,.int 513 uS] nS,slS⟩)
  {aG aG0 aG1:Addr} {dG dG0 dG1:Option Addr} {nG nG0 nG1:Nat} {slG slG0 slG1:Array (Option Value)} {tG0 tG1 tG2 tG3:PySem.Tok} (n_SIGNS:PySem.W.nsIn K mainGlobals "SIGNS"=some (some (.ref aG))) (l_SIGNS:K.lookup aG=some ⟨.type "tuple",dG,.seq #[.ref aG0,.ref aG1] nG,slG⟩) (l0_SIGNS:K.lookup aG0=some ⟨.type "tuple",dG0,.seq #[.str "<" tG0,.str ">" tG1] nG0,slG0⟩) (l1_SIGNS:K.lookup aG1=some ⟨.type "tuple",dG1,.seq #[.str "^" tG2,.str "v" tG3] nG1,slG1⟩)
  (n_FloorError:PySem.W.nsIn K mainGlobals "FloorError"=some (some (.ref cFloorError))) (t_FloorError:XTop K cFloorError)
  (n_NoFloor:PySem.W.nsIn K mainGlobals "NoFloor"=some (some (.ref cNoFloor))) (t_NoFloor:XTop K cNoFloor)
  (n_NoLaying:PySem.W.nsIn K mainGlobals "NoLaying"=some (some (.ref cNoLaying))) (t_NoLaying:XTop K cNoLaying)
  (n_NoNumber:PySem.W.nsIn K mainGlobals "NoNumber"=some (some (.ref cNoNumber))) (t_NoNumber:XTop K cNoNumber)
  (n_NoTurn:PySem.W.nsIn K mainGlobals "NoTurn"=some (some (.ref cNoTurn))) (t_NoTurn:XTop K cNoTurn)
  (n_NotPlain:PySem.W.nsIn K mainGlobals "NotPlain"=some (some (.ref cNotPlain))) (t_NotPlain:XTop K cNotPlain)
  (n_NoNote:PySem.W.nsIn K mainGlobals "NoNote"=some (some (.ref cNoNote))) (t_NoNote:XTop K cNoNote)
  (x_NoFloor:PySem.W.excIn K cNoFloor [.type "ValueError",.type "Exception",.type "BaseException",.type "object"] "ValueError.__new__"=true)
  (x_NoLaying:PySem.W.excIn K cNoLaying [.type "ValueError",.type "Exception",.type "BaseException",.type "object"] "ValueError.__new__"=true)
  (x_NoTurn:PySem.W.excIn K cNoTurn [.type "ValueError",.type "Exception",.type "BaseException",.type "object"] "ValueError.__new__"=true)
  (x_NotPlain:PySem.W.excIn K cNotPlain [.type "ValueError",.type "Exception",.type "BaseException",.type "object"] "ValueError.__new__"=true)
  (x_NoNumber:PySem.W.excIn K cNoNumber [.type "ValueError",.type "Exception",.type "BaseException",.type "object"] "ValueError.__new__"=true)
  (s_NoFloor_FloorError:PySem.W.mroIn K cNoFloor (.ref cFloorError)=some true)
  (s_NoLaying_FloorError:PySem.W.mroIn K cNoLaying (.ref cFloorError)=some true)
  (s_NotPlain_FloorError:PySem.W.mroIn K cNotPlain (.ref cFloorError)=some true)
  (s_NoTurn_FloorError:PySem.W.mroIn K cNoTurn (.ref cFloorError)=some true)
  (s_NoNumber_FloorError:PySem.W.mroIn K cNoNumber (.ref cFloorError)=some true)
  (ne_k_NoFloor_NotPlain:cNoFloor≠cNotPlain) (k_NoFloor_NotPlain:PySem.W.mroIn K cNoFloor (.ref cNotPlain)=some false)
  (ne_k_NoFloor_NoLaying:cNoFloor≠cNoLaying) (k_NoFloor_NoLaying:PySem.W.mroIn K cNoFloor (.ref cNoLaying)=some false)
  (ne_k_NoFloor_NoNumber:cNoFloor≠cNoNumber) (k_NoFloor_NoNumber:PySem.W.mroIn K cNoFloor (.ref cNoNumber)=some false)
  (ne_k_NoFloor_NoTurn:cNoFloor≠cNoTurn) (k_NoFloor_NoTurn:PySem.W.mroIn K cNoFloor (.ref cNoTurn)=some false)
  (ne_k_NoFloor_NoNote:cNoFloor≠cNoNote) (k_NoFloor_NoNote:PySem.W.mroIn K cNoFloor (.ref cNoNote)=some false)
  (ne_k_NoLaying_NoFloor:cNoLaying≠cNoFloor) (k_NoLaying_NoFloor:PySem.W.mroIn K cNoLaying (.ref cNoFloor)=some false)
  (ne_k_NoLaying_NotPlain:cNoLaying≠cNotPlain) (k_NoLaying_NotPlain:PySem.W.mroIn K cNoLaying (.ref cNotPlain)=some false)
  (ne_k_NoLaying_NoNumber:cNoLaying≠cNoNumber) (k_NoLaying_NoNumber:PySem.W.mroIn K cNoLaying (.ref cNoNumber)=some false)
  (ne_k_NoLaying_NoTurn:cNoLaying≠cNoTurn) (k_NoLaying_NoTurn:PySem.W.mroIn K cNoLaying (.ref cNoTurn)=some false)
  (ne_k_NoLaying_NoNote:cNoLaying≠cNoNote) (k_NoLaying_NoNote:PySem.W.mroIn K cNoLaying (.ref cNoNote)=some false)
  (ne_k_NotPlain_NoFloor:cNotPlain≠cNoFloor) (k_NotPlain_NoFloor:PySem.W.mroIn K cNotPlain (.ref cNoFloor)=some false)
  (ne_k_NotPlain_NoLaying:cNotPlain≠cNoLaying) (k_NotPlain_NoLaying:PySem.W.mroIn K cNotPlain (.ref cNoLaying)=some false)
  (ne_k_NotPlain_NoNumber:cNotPlain≠cNoNumber) (k_NotPlain_NoNumber:PySem.W.mroIn K cNotPlain (.ref cNoNumber)=some false)
  (ne_k_NotPlain_NoTurn:cNotPlain≠cNoTurn) (k_NotPlain_NoTurn:PySem.W.mroIn K cNotPlain (.ref cNoTurn)=some false)
  (ne_k_NotPlain_NoNote:cNotPlain≠cNoNote) (k_NotPlain_NoNote:PySem.W.mroIn K cNotPlain (.ref cNoNote)=some false)
  (ne_k_NoTurn_NoFloor:cNoTurn≠cNoFloor) (k_NoTurn_NoFloor:PySem.W.mroIn K cNoTurn (.ref cNoFloor)=some false)
  (ne_k_NoTurn_NotPlain:cNoTurn≠cNotPlain) (k_NoTurn_NotPlain:PySem.W.mroIn K cNoTurn (.ref cNotPlain)=some false)
  (ne_k_NoTurn_NoLaying:cNoTurn≠cNoLaying) (k_NoTurn_NoLaying:PySem.W.mroIn K cNoTurn (.ref cNoLaying)=some false)
  (ne_k_NoTurn_NoNumber:cNoTurn≠cNoNumber) (k_NoTurn_NoNumber:PySem.W.mroIn K cNoTurn (.ref cNoNumber)=some false)
  (ne_k_NoTurn_NoNote:cNoTurn≠cNoNote) (k_NoTurn_NoNote:PySem.W.mroIn K cNoTurn (.ref cNoNote)=some false)
  (ne_k_NoNumber_NoFloor:cNoNumber≠cNoFloor) (k_NoNumber_NoFloor:PySem.W.mroIn K cNoNumber (.ref cNoFloor)=some false)
  (ne_k_NoNumber_NotPlain:cNoNumber≠cNotPlain) (k_NoNumber_NotPlain:PySem.W.mroIn K cNoNumber (.ref cNotPlain)=some false)
  (ne_k_NoNumber_NoLaying:cNoNumber≠cNoLaying) (k_NoNumber_NoLaying:PySem.W.mroIn K cNoNumber (.ref cNoLaying)=some false)
  (ne_k_NoNumber_NoTurn:cNoNumber≠cNoTurn) (k_NoNumber_NoTurn:PySem.W.mroIn K cNoNumber (.ref cNoTurn)=some false)
  (ne_k_NoNumber_NoNote:cNoNumber≠cNoNote) (k_NoNumber_NoNote:PySem.W.mroIn K cNoNumber (.ref cNoNote)=some false)
  (b_NoFloor_ValueError:PySem.W.mroIn K cNoFloor (.type "ValueError")=some true)
  (b_NoLaying_ValueError:PySem.W.mroIn K cNoLaying (.type "ValueError")=some true)
  (b_NotPlain_ValueError:PySem.W.mroIn K cNotPlain (.type "ValueError")=some true)
  (b_NoTurn_ValueError:PySem.W.mroIn K cNoTurn (.type "ValueError")=some true)
  (b_NoNumber_ValueError:PySem.W.mroIn K cNoNumber (.type "ValueError")=some true)
 :∃ fd:FuncData,(∀ (s:Shared) (v:Value),BindsTo s fd ⟨[v],[]⟩ [("script",v)])/\∀ base:Heap,K.In base->base.Ns mainGlobals mg->FnOk P w K mg base CX0 39 fa fd ["script"] (spD K 1 M6):=by
 obtain⟨f_on_board,e_on_board⟩:=e_on_board
 obtain⟨fd_on_board,d_on_board⟩:=e_on_board.dfn KX GX
 obtain⟨f_check_floor,e_check_floor⟩:=e_check_floor
 obtain⟨fd_check_floor,d_check_floor⟩:=e_check_floor.dfn KX GX
 obtain⟨f_marked,e_marked⟩:=e_marked
 obtain⟨fd_marked,d_marked⟩:=e_marked.dfn KX GX
 obtain⟨f_neighbours,e_neighbours⟩:=e_neighbours
 obtain⟨fd_neighbours,d_neighbours⟩:=e_neighbours.dfn KX GX
 obtain⟨f_places_about,e_places_about⟩:=e_places_about
 obtain⟨fd_places_about,d_places_about⟩:=e_places_about.dfn KX GX
 obtain⟨f_reached_outside,e_reached_outside⟩:=e_reached_outside
 obtain⟨fd_reached_outside,d_reached_outside⟩:=e_reached_outside.dfn KX GX
 obtain⟨f_is_plain,e_is_plain⟩:=e_is_plain
 obtain⟨fd_is_plain,d_is_plain⟩:=e_is_plain.dfn KX GX
 obtain⟨f_squares_at,e_squares_at⟩:=e_squares_at
 obtain⟨fd_squares_at,d_squares_at⟩:=e_squares_at.dfn KX GX
 obtain⟨f_inner,e_inner⟩:=e_inner
 obtain⟨fd_inner,d_inner⟩:=e_inner.dfn KX GX
 obtain⟨f_squares_under,e_squares_under⟩:=e_squares_under
 obtain⟨fd_squares_under,d_squares_under⟩:=e_squares_under.dfn KX GX
 obtain⟨f_are_in_order,e_are_in_order⟩:=e_are_in_order
 obtain⟨fd_are_in_order,d_are_in_order⟩:=e_are_in_order.dfn KX GX
 obtain⟨f_all_under,e_all_under⟩:=e_all_under
 obtain⟨fd_all_under,d_all_under⟩:=e_all_under.dfn KX GX
 obtain⟨f_is_laying,e_is_laying⟩:=e_is_laying
 obtain⟨fd_is_laying,d_is_laying⟩:=e_is_laying.dfn KX GX
 obtain⟨f_check_laying,e_check_laying⟩:=e_check_laying
 obtain⟨fd_check_laying,d_check_laying⟩:=e_check_laying.dfn KX GX
 obtain⟨f_half_of,e_half_of⟩:=e_half_of
 obtain⟨fd_half_of,d_half_of⟩:=e_half_of.dfn KX GX
 obtain⟨f_larger_half,e_larger_half⟩:=e_larger_half
 obtain⟨fd_larger_half,d_larger_half⟩:=e_larger_half.dfn KX GX
 obtain⟨f_finds_partner,e_finds_partner⟩:=e_finds_partner
 obtain⟨fd_finds_partner,d_finds_partner⟩:=e_finds_partner.dfn KX GX
 obtain⟨f_wall_from,e_wall_from⟩:=e_wall_from
 obtain⟨fd_wall_from,d_wall_from⟩:=e_wall_from.dfn KX GX
 obtain⟨f_flag_over,e_flag_over⟩:=e_flag_over
 obtain⟨fd_flag_over,d_flag_over⟩:=e_flag_over.dfn KX GX
 obtain⟨f_lay,e_lay⟩:=e_lay
 obtain⟨fd_lay,d_lay⟩:=e_lay.dfn KX GX
 obtain⟨f_pair_at,e_pair_at⟩:=e_pair_at
 obtain⟨fd_pair_at,d_pair_at⟩:=e_pair_at.dfn KX GX
 obtain⟨f_has_pair,e_has_pair⟩:=e_has_pair
 obtain⟨fd_has_pair,d_has_pair⟩:=e_has_pair.dfn KX GX
 obtain⟨f_slope,e_slope⟩:=e_slope
 obtain⟨fd_slope,d_slope⟩:=e_slope.dfn KX GX
 obtain⟨f_turned_at,e_turned_at⟩:=e_turned_at
 obtain⟨fd_turned_at,d_turned_at⟩:=e_turned_at.dfn KX GX
 obtain⟨f_check_turn,e_check_turn⟩:=e_check_turn
 obtain⟨fd_check_turn,d_check_turn⟩:=e_check_turn.dfn KX GX
 obtain⟨f_corners,e_corners⟩:=e_corners
 obtain⟨fd_corners,d_corners⟩:=e_corners.dfn KX GX
 obtain⟨f_turned,e_turned⟩:=e_turned
 obtain⟨fd_turned,d_turned⟩:=e_turned.dfn KX GX
 obtain⟨f_rises,e_rises⟩:=e_rises
 obtain⟨fd_rises,d_rises⟩:=e_rises.dfn KX GX
 obtain⟨f_check_plain,e_check_plain⟩:=e_check_plain
 obtain⟨fd_check_plain,d_check_plain⟩:=e_check_plain.dfn KX GX
 obtain⟨f_check_one,e_check_one⟩:=e_check_one
 obtain⟨fd_check_one,d_check_one⟩:=e_check_one.dfn KX GX
 obtain⟨f_check_both,e_check_both⟩:=e_check_both
 obtain⟨fd_check_both,d_check_both⟩:=e_check_both.dfn KX GX
 obtain⟨f_gap_step,e_gap_step⟩:=e_gap_step
 obtain⟨fd_gap_step,d_gap_step⟩:=e_gap_step.dfn KX GX
 obtain⟨f_gap_by_corner,e_gap_by_corner⟩:=e_gap_by_corner
 obtain⟨fd_gap_by_corner,d_gap_by_corner⟩:=e_gap_by_corner.dfn KX GX
 obtain⟨f_led,e_led⟩:=e_led
 obtain⟨fd_led,d_led⟩:=e_led.dfn KX GX
 obtain⟨f_led_to_end,e_led_to_end⟩:=e_led_to_end
 obtain⟨fd_led_to_end,d_led_to_end⟩:=e_led_to_end.dfn KX GX
 obtain⟨f_gaps,e_gaps⟩:=e_gaps
 obtain⟨fd_gaps,d_gaps⟩:=e_gaps.dfn KX GX
 obtain⟨f_way,e_way⟩:=e_way
 obtain⟨fd_way,d_way⟩:=e_way.dfn KX GX
 obtain⟨f_upper,e_upper⟩:=e_upper
 obtain⟨fd_upper,d_upper⟩:=e_upper.dfn KX GX
 obtain⟨f_lower,e_lower⟩:=e_lower
 obtain⟨fd_lower,d_lower⟩:=e_lower.dfn KX GX
 obtain⟨f_highest,e_highest⟩:=e_highest
 obtain⟨fd_highest,d_highest⟩:=e_highest.dfn KX GX
 obtain⟨f_lowest,e_lowest⟩:=e_lowest
 obtain⟨fd_lowest,d_lowest⟩:=e_lowest.dfn KX GX
 obtain⟨f_bits_of,e_bits_of⟩:=e_bits_of
 obtain⟨fd_bits_of,d_bits_of⟩:=e_bits_of.dfn KX GX
 obtain⟨f_first_square,e_first_square⟩:=e_first_square
 obtain⟨fd_first_square,d_first_square⟩:=e_first_square.dfn KX GX
 obtain⟨f_span_on_first,e_span_on_first⟩:=e_span_on_first
 obtain⟨fd_span_on_first,d_span_on_first⟩:=e_span_on_first.dfn KX GX
 obtain⟨f_ways_with,e_ways_with⟩:=e_ways_with
 obtain⟨fd_ways_with,d_ways_with⟩:=e_ways_with.dfn KX GX
 obtain⟨f_ways_over,e_ways_over⟩:=e_ways_over
 obtain⟨fd_ways_over,d_ways_over⟩:=e_ways_over.dfn KX GX
 obtain⟨f_ways,e_ways⟩:=e_ways
 obtain⟨fd_ways,d_ways⟩:=e_ways.dfn KX GX
 obtain⟨f_told,e_told⟩:=e_told
 obtain⟨fd_told,d_told⟩:=e_told.dfn KX GX
 obtain⟨f_number_of,e_number_of⟩:=e_number_of
 obtain⟨fd_number_of,d_number_of⟩:=e_number_of.dfn KX GX
 obtain⟨f_written,e_written⟩:=e_written
 obtain⟨fd_written,d_written⟩:=e_written.dfn KX GX
 obtain⟨f_shown,e_shown⟩:=e_shown
 obtain⟨fd_shown,d_shown⟩:=e_shown.dfn KX GX
 obtain⟨f_law_cell_at,e_law_cell_at⟩:=e_law_cell_at
 obtain⟨fd_law_cell_at,d_law_cell_at⟩:=e_law_cell_at.dfn KX GX
 obtain⟨f_law_made,e_law_made⟩:=e_law_made
 obtain⟨fd_law_made,d_law_made⟩:=e_law_made.dfn KX GX
 obtain⟨f_law_spoilt,e_law_spoilt⟩:=e_law_spoilt
 obtain⟨fd_law_spoilt,d_law_spoilt⟩:=e_law_spoilt.dfn KX GX
 obtain⟨f_law_early,e_law_early⟩:=e_law_early
 obtain⟨fd_law_early,d_law_early⟩:=e_law_early.dfn KX GX
 obtain⟨f_law_late,e_law_late⟩:=e_law_late
 obtain⟨fd_law_late,d_law_late⟩:=e_law_late.dfn KX GX
 obtain⟨f_law_asked,e_law_asked⟩:=e_law_asked
 obtain⟨fd_law_asked,d_law_asked⟩:=e_law_asked.dfn KX GX
 obtain⟨f_law_due,e_law_due⟩:=e_law_due
 obtain⟨fd_law_due,d_law_due⟩:=e_law_due.dfn KX GX
 obtain⟨f_law,e_law⟩:=e_law
 obtain⟨fd_law,d_law⟩:=e_law.dfn KX GX
 obtain⟨t_SIDE,z_SIDE⟩:=z_SIDE
 obtain⟨t_PLACES,z_PLACES⟩:=z_PLACES
 obtain⟨t_ROW_BITS,z_ROW_BITS⟩:=z_ROW_BITS
 obtain⟨t_BARE,z_BARE⟩:=z_BARE
 have T:Txt mg:=⟨⟨_,PySem.W.mg_of KX GX z_SIDE⟩,PySem.W.mg_none_of KX GX z_zip,PySem.W.mg_none_of KX GX z_dict,PySem.W.mg_none_of KX GX z_max,PySem.W.mg_none_of KX GX z_min,PySem.W.mg_none_of KX GX z_range,PySem.W.mg_none_of KX GX z_len,⟨_,PySem.W.mg_of KX GX z_PLACES⟩,PySem.W.mg_none_of KX GX z_all,PySem.W.mg_none_of KX GX z_sorted,PySem.W.mg_none_of KX GX z_list,PySem.W.mg_none_of KX GX z_any,⟨_,PySem.W.mg_of KX GX z_ROW_BITS⟩,PySem.W.mg_none_of KX GX z_sum,PySem.W.mg_none_of KX GX z_divmod,⟨_,PySem.W.mg_of KX GX z_BARE⟩,PySem.W.mg_none_of KX GX z_isinstance,PySem.W.mg_none_of KX GX z_ValueError⟩
 have SA:=Aht KX GX n_SPANS l_SPANS
 have SGN:Sgn K mg:=Agg KX GX n_SIGNS l_SIGNS l0_SIGNS l1_SIGNS
 have XT:Exs K mg cFloorError cNoFloor cNoLaying cNoNumber cNoTurn cNotPlain cNoNote:=⟨PySem.W.mg_of KX GX n_NoFloor,PySem.W.mg_of KX GX n_NoLaying,PySem.W.mg_of KX GX n_NoTurn,PySem.W.mg_of KX GX n_NotPlain,PySem.W.mg_of KX GX n_NoNumber,PySem.W.mg_of KX GX n_FloorError,PySem.W.mg_of KX GX n_NoNote,t_FloorError,t_NoFloor,t_NoLaying,t_NotPlain,t_NoTurn,t_NoNumber,t_NoNote,x_NoFloor,x_NoLaying,x_NoTurn,x_NotPlain,x_NoNumber,s_NoFloor_FloorError,s_NoLaying_FloorError,s_NotPlain_FloorError,s_NoTurn_FloorError,s_NoNumber_FloorError,Lj,Bu t_NotPlain ne_k_NoFloor_NotPlain k_NoFloor_NotPlain,Bu t_NoLaying ne_k_NoFloor_NoLaying k_NoFloor_NoLaying,Bu t_NoNumber ne_k_NoFloor_NoNumber k_NoFloor_NoNumber,Bu t_NoTurn ne_k_NoFloor_NoTurn k_NoFloor_NoTurn,Bu t_NoNote ne_k_NoFloor_NoNote k_NoFloor_NoNote,Bu t_NoFloor ne_k_NoLaying_NoFloor k_NoLaying_NoFloor,Bu t_NotPlain ne_k_NoLaying_NotPlain k_NoLaying_NotPlain,Lj,Bu t_NoNumber ne_k_NoLaying_NoNumber k_NoLaying_NoNumber,Bu t_NoTurn ne_k_NoLaying_NoTurn k_NoLaying_NoTurn,Bu t_NoNote ne_k_NoLaying_NoNote k_NoLaying_NoNote,Bu t_NoFloor ne_k_NotPlain_NoFloor k_NotPlain_NoFloor,Lj,Bu t_NoLaying ne_k_NotPlain_NoLaying k_NotPlain_NoLaying,Bu t_NoNumber ne_k_NotPlain_NoNumber k_NotPlain_NoNumber,Bu t_NoTurn ne_k_NotPlain_NoTurn k_NotPlain_NoTurn,Bu t_NoNote ne_k_NotPlain_NoNote k_NotPlain_NoNote,Bu t_NoFloor ne_k_NoTurn_NoFloor k_NoTurn_NoFloor,Bu t_NotPlain ne_k_NoTurn_NotPlain k_NoTurn_NotPlain,Bu t_NoLaying ne_k_NoTurn_NoLaying k_NoTurn_NoLaying,Bu t_NoNumber ne_k_NoTurn_NoNumber k_NoTurn_NoNumber,Lj,Bu t_NoNote ne_k_NoTurn_NoNote k_NoTurn_NoNote,Bu t_NoFloor ne_k_NoNumber_NoFloor k_NoNumber_NoFloor,Bu t_NotPlain ne_k_NoNumber_NotPlain k_NoNumber_NotPlain,Bu t_NoLaying ne_k_NoNumber_NoLaying k_NoNumber_NoLaying,Lj,Bu t_NoTurn ne_k_NoNumber_NoTurn k_NoNumber_NoTurn,Bu t_NoNote ne_k_NoNumber_NoNote k_NoNumber_NoNote,Og "ValueError" (by decide +kernel) b_NoFloor_ValueError,Og "ValueError" (by decide +kernel) b_NoLaying_ValueError,Og "ValueError" (by decide +kernel) b_NotPlain_ValueError,Og "ValueError" (by decide +kernel) b_NoTurn_ValueError,Og "ValueError" (by decide +kernel) b_NoNumber_ValueError⟩
 refine Alw hfa d_law (Fun.one d_law.fn λ _ _ _ _ _ _ _=>rfl) λ base=>?_
 have C_law_cell_at:=Ra (P:=P) (w:=w) (base:=base) d_law_cell_at T
 have C_law_made:=X4 (P:=P) (w:=w) (base:=base) d_law_made T
 have C_law_spoilt:=Tf (P:=P) (w:=w) (base:=base) d_law_spoilt T
 have C_law_due:=Aa5 (P:=P) (w:=w) (base:=base) d_law_due T
 have C_on_board:=Yl (P:=P) (w:=w) (base:=base) d_on_board T
 have C_check_floor:=Q7 d_check_floor T XT C_on_board
 have C_places_about:=Pn (P:=P) (w:=w) (base:=base) d_places_about T
 have C_reached_outside:=Lf d_reached_outside T C_places_about
 have C_marked:=Aet (P:=P) (w:=w) (base:=base) d_marked T
 have C_is_plain:=Xn d_is_plain T C_check_floor C_reached_outside C_marked
 have C_squares_at:=Uz (P:=P) (w:=w) (base:=base) d_squares_at T
 have C_inner:=Ais d_inner T C_check_floor C_marked C_squares_at
 have C_are_in_order:=Pa (P:=P) (w:=w) (base:=base) d_are_in_order T
 have C_squares_under:=Nm (P:=P) (w:=w) (base:=base) d_squares_under T
 have C_all_under:=Wq d_all_under T C_squares_under
 have C_is_laying:=Vy d_is_laying T C_check_floor C_are_in_order C_all_under
 have C_half_of:=Abn (P:=P) (w:=w) (base:=base) d_half_of T
 have C_larger_half:=Rc d_larger_half T C_half_of
 have C_neighbours:=Ux (P:=P) (w:=w) (base:=base) d_neighbours T
 have C_finds_partner:=Ni d_finds_partner T C_neighbours
 have C_wall_from:=Vg (P:=P) (w:=w) (base:=base) d_wall_from T
 have C_flag_over:=W7 (P:=P) (w:=w) (base:=base) d_flag_over T
 have C_lay:=Ao4 d_lay T C_check_floor C_marked C_larger_half C_finds_partner C_wall_from C_flag_over
 have C_ways_over:CalW P w K mg base 25 12:=⟨f_ways_over,fd_ways_over,d_ways_over.mg,d_ways_over.fn.kp,(d_ways_over.fn.binds (by walk_at "b")),Hq d_span_on_first d_ways_with d_ways_over SA 12⟩
 have C_bits_of:=Abh (P:=P) (w:=w) (base:=base) d_bits_of T
 have C_ways:=Al5 d_ways T C_check_floor C_ways_over C_bits_of
 have C_told:=Aka d_told T XT C_check_floor C_bits_of d_span_on_first d_ways_with d_ways_over d_first_square SA
 have C_check_laying:=Oe d_check_laying T XT C_is_laying
 have C_number_of:CalE P w K mg base "number_of" ["floor","flags"] 27 Cy:=Vb d_number_of C_check_laying C_bits_of d_span_on_first d_ways_with d_ways_over SA
 have C_written:=Ab5 d_written T SGN C_squares_under
 have C_shown:=Aii d_shown T C_check_laying C_written
 have C_law_early:=V2 d_law_early T C_is_plain C_inner C_is_laying C_lay C_ways C_told C_number_of C_shown
 have C_pair_at:=Ab8 (P:=P) (w:=w) (base:=base) d_pair_at T
 have C_has_pair:=Ys d_has_pair T C_pair_at
 have C_slope:=Ag0 d_slope T C_has_pair
 have C_corners:=Aa4 d_corners T C_check_laying C_inner C_slope
 have C_check_turn:=Tq d_check_turn T XT C_slope
 have C_turned_at:=Vo d_turned_at T C_has_pair C_pair_at
 have C_turned:=Ada d_turned T C_check_laying C_check_turn C_turned_at
 have C_rises:=Ah4 d_rises T C_check_laying C_check_turn C_slope
 have C_check_plain:=Ri d_check_plain T XT C_is_plain
 have C_check_both:=Td d_check_both T C_check_plain C_check_laying
 have C_gap_step:=Yx (P:=P) (w:=w) (base:=base) d_gap_step T
 have C_gap_by_corner:=Nt d_gap_by_corner T C_inner C_gap_step
 have C_gaps:=Akn d_gaps T C_check_both C_gap_by_corner
 have C_led:=Aqj d_led T C_slope C_turned_at
 have C_way:=Aqg d_way T C_check_both C_led C_gap_by_corner
 have C_upper:=Ag4 d_upper T C_check_both C_gap_by_corner C_led
 have C_lower:=Ahr d_lower T C_check_both C_gap_by_corner C_led
 have C_check_one:=Vp d_check_one T C_check_plain C_check_laying
 have C_led_to_end:=Uv d_led_to_end T C_inner C_slope C_turned_at
 have C_highest:=Aa0 d_highest T C_check_one C_led_to_end
 have C_lowest:=Af8 d_lowest T C_check_one C_led_to_end
 have C_law_late:=Yg d_law_late T C_corners C_turned C_rises C_gaps C_way C_upper C_lower C_highest C_lowest
 have C_law_asked:=Wn d_law_asked T XT C_law_early C_law_late
 exact Aky d_law T C_law_cell_at C_law_made C_law_spoilt C_law_due C_law_asked
end
theorem walk {l:PySem.W.OpenLaw}{q:Program}{loose:List Str}{XP:(Str->Option Value)->Heap->Prop}{YP:World->Heap->Prop}{d:DefRec}{K:Params->PySem.W.Frag}(hn:l.most=some 63) (hdf:d.params.defaults=[])
  (hY:∀ (w:World) (h:Heap),YP w h->(K w.params).In h) (hm:∀ ns:List Int,ns.length<=63->M6 [.scr ns]=.ok (.bl true))
  (F:∀ (w:World) (mg:Str->Option Value) (fa:Addr) (h:Heap),(K w.params).In h->h.Ns mainGlobals mg->mg d.name=some (.ref fa) →
   ∃ fd:FuncData,(∀ (s:Shared) (u:Value),BindsTo s fd ⟨[u],[]⟩ [("script",u)])/\∀ base:Heap,(K w.params).In base->base.Ns mainGlobals mg->FnOk l.prog w (K w.params) mg base CX0 39 fa fd ["script"] (spD (K w.params) 1 M6)) :
  PySem.W.WalkO q loose XP YP l.row.toRowW d [] (λ f vs=>PySem.call f vs) :=
 L2.walk_ofK (n:=63) (k:=39) (x:="script") (CX:=CX0) (sp:=λ K=>spD K 1 M6) hn (by decide) hdf ⟨rfl,by decide,by decide⟩ hY F (λ K H a ns hl _ hS=>Ane hl hS hm) λ _ _ _ _ z=>z
end M
open PySem PySem.W PyProof.Rows
def PySem.W.Fast.tw326197827642796007:PySem.Program:=PySem.Challenge.pw_flagfloor_k18_which_refusal
theorem PySem.W.Fast.te326197827642796007:PySem.Challenge.pw_flagfloor_k18_which_refusal=PySem.W.Fast.tw326197827642796007:=rfl
def PySem.W.Fast.tw7162192142806791125:=0
def PySem.W.Fast.tw2950019966550509438:=0
def PySem.W.Fast.tw7516441345801233296:=0
def PySem.W.Fast.tw18319222668586461455:=0
def PySem.W.Fast.tw6135686786636739587:=0
def PySem.W.Fast.tw15743044431012493125:=0
def PySem.W.Fast.tw18427066350495785543:=0
def PySem.W.Fast.tw9585762715137858517:=0
def PySem.W.Fast.tw6099085802486758415:=0
def PySem.W.Fast.tw4655533969171614298:=0
def PySem.W.Fast.tw9630057000026030477:=0
def PySem.W.Fast.tw17969663183115554046:=0
def PySem.W.Fast.tw17730461098023670691:=0
def PySem.W.Fast.tw13010695647154060997:=0
def PySem.W.Fast.tw6880671615677238681:=0
def PySem.W.Fast.tw6826471378599418659:=0
def PySem.W.Fast.tw5249738979725982809:=0
def PySem.W.Fast.tw12271774656464023076:=0
def PySem.W.Fast.tw8451392736726930992:=0
def PySem.W.Fast.tw10998700657680117701:=0
def PySem.W.Fast.tw7999771402488571714:=0
def PySem.W.Fast.tw698165822182783544:=0
def PySem.W.Fast.tw1554376104468305858:=0
def PySem.W.Fast.tw16380640118829587221:=0
def PySem.W.Fast.tw17797665517803847945:=0
def PySem.W.Fast.tw10482456792973622973:=0
def PySem.W.Fast.tw4048249025910580829:=0
def PySem.W.Fast.tw10897135950193587568:=0
def PySem.W.Fast.tw4552108174113389640:=0
def PySem.W.Fast.tw7527112552128151030:=0
def PySem.W.Fast.tw8643923723293698476:=0
def PySem.W.Fast.tw15218940703965361998:=0
def PySem.W.Fast.tw18096937396629028507:=0
def PySem.W.Fast.tw17762358921887409248:=0
def PySem.W.Fast.tw1082089135180539845:=0
def PySem.W.Fast.tw5084822477180374928:=0
def PySem.W.Fast.tw17909830566382488706:=0
def PySem.W.Fast.tw17694873589841342859:=0
def PySem.W.Fast.tw10696103213496203267:=0
def PySem.W.Fast.tw13504929799607594011:=0
def PySem.W.Fast.tw6722549627887325461:=0
def PySem.W.Fast.tw17650257145388505308:=0
def PySem.W.Fast.tw8593555622275619301:=0
def PySem.W.Fast.tw15959933805743034396:=0
set_option maxRecDepth 100000 in
set_option maxHeartbeats 0 in
theorem PySem.Challenge.cw_flagfloor_k18_which_refusal_holds : PySem.Challenge.rw_flagfloor_k18_which_refusal.Holds := by
 w_on;o_law;k_head;(case hw=>w_witness2)
 k_fill
 refine M.walk (l:=PySem.Challenge.rw_flagfloor_k18_which_refusal) rfl rfl (λ w h Y=>PySem.W.kIn_of Y) M.law_true ?F
 case F =>
  intro w mg fa h KX GX hmg
  refine' M.law_F KX GX hmg ?_ ?_ ?_ ?_ ?_ ?_ ?_ ?_ ?_ ?_ ?_ ?_ ?_ ?_ ?_ ?_ ?_ ?_ ?_ ?_ ?_ ?_ ?_ ?_ ?_ ?_ ?_ ?_ ?_ ?_ ?_ ?_ ?_ ?_ ?_ ?_ ?_ ?_ ?_ ?_ ?_ ?_ ?_ ?_ ?_ ?_ ?_ ?_ ?_ ?_ ?_ ?_ ?_ ?_ ?_ ?_ ?_ ?_ ?_ (M.int_ex KX ?_) ?_ ?_ ?_ ?_ ?_ ?_ (M.int_ex KX ?_) ?_ ?_ ?_ ?_ (M.int_ex KX ?_) ?_ ?_ (M.str_ex KX ?_) ?_ ?_ ?_ ?_ ?_ ?_ ?_ ?_ ?_ (M.xtop_mk ?_ ?_ ?_ ?_ ?_ ?_) ?_ (M.xtop_mk ?_ ?_ ?_ ?_ ?_ ?_) ?_ (M.xtop_mk ?_ ?_ ?_ ?_ ?_ ?_) ?_ (M.xtop_mk ?_ ?_ ?_ ?_ ?_ ?_) ?_ (M.xtop_mk ?_ ?_ ?_ ?_ ?_ ?_) ?_ (M.xtop_mk ?_ ?_ ?_ ?_ ?_ ?_) ?_ (M.xtop_mk ?_ ?_ ?_ ?_ ?_ ?_) ?_ ?_ ?_ ?_ ?_ ?_ ?_ ?_ ?_ ?_ ?_ ?_ ?_ ?_ ?_ ?_ ?_ ?_ ?_ ?_ ?_ ?_ ?_ ?_ ?_ ?_ ?_ ?_ ?_ ?_ ?_ ?_ ?_ ?_ ?_ ?_ ?_ ?_ ?_ ?_ ?_ ?_ ?_ ?_ ?_ ?_ ?_ ?_ ?_ ?_ ?_ ?_ ?_ ?_ ?_ ?_ ?_ ?_ ?_ ?_ ?_ ?_ ?_ ?_ ?_
  all_goals try refine' M.ent_ex KX ?_ ?_ ?_ ?_
  all_goals try first|k_is|k_exc|decide
